/-
  A machine of one task and one function, as plain functions and relations: a new cell is taken from any place that cannot be reached, and what can be reached stays. Nothing of the program is imported here.
-/
import Derived.Test.YtnjiinbhbjpfkaaGreatDoorGateA
import Derived.Deep.RegionHeld3
import Derived.Lib.SliceRun
import Derived.LaidEqlPtr
import Derived.Laws.EntriesVeiled
namespace Go.Proofs.YtnjiinbhbjpfkaaGreatDoor.B
abbrev V := Nat × Int
abbrev St := Nat × (Nat → V) × (Nat → List V)
abbrev In := Nat × Nat × Nat × Nat
def set (r : Nat → V) (a : Nat) (v : V) : Nat → V := fun i => if i = a then v else r i
theorem set_at (r : Nat → V) (a : Nat) (v : V) : set r a v a = v := if_pos rfl
theorem set_off (r : Nat → V) (a i : Nat) (v : V) (h : i ≠ a) : set r a v i = r i := if_neg h
def lay (m : Nat → List V) (p : Nat) (l : List V) : Nat → List V := fun k => if k = p then l else m k
theorem lay_at (m : Nat → List V) (p : Nat) (l : List V) : lay m p l p = l := if_pos rfl
theorem lay_off (m : Nat → List V) (p k : Nat) (l : List V) (h : k ≠ p) : lay m p l k = m k := if_neg h
def Reach (nr : Nat) (s : St) (p : Nat) : Prop :=
  ∀ S : Nat → Prop, (∀ i, i < nr → (s.2.1 i).1 ≠ 0 → S (s.2.1 i).1) → (∀ k, S k → ∀ v, v ∈ s.2.2 k → v.1 ≠ 0 → S v.1) → S p
theorem reach_reg {nr : Nat} {s : St} (i : Nat) (hi : i < nr) (h : (s.2.1 i).1 ≠ 0) : Reach nr s (s.2.1 i).1 := fun _ h1 _ => h1 i hi h
theorem reach_slot {nr : Nat} {s : St} {k : Nat} (hk : Reach nr s k) {v : V} (hv : v ∈ s.2.2 k) (h : v.1 ≠ 0) : Reach nr s v.1 := fun S h1 h2 => h2 k (hk S h1 h2) v hv h
def wide (b c : Nat) : Int := if 256 * b + c < 32768 then (256 * b + c : Nat) else (256 * b + c : Nat) - 65536
def wrap (x : Int) : Int := (x + 9223372036854775808) % 18446744073709551616 - 9223372036854775808
theorem len_le : ∀ (l m : List Nat), l.Nodup → (∀ x, x ∈ l → x ∈ m) → l.length ≤ m.length := by
  intro l
  induction l with
  | nil => intro m _ _; simp
  | cons a l ih =>
    intro m hn hs
    have ha : a ∈ m := hs a (by simp)
    have h1 := ih (m.erase a) (List.nodup_cons.1 hn).2 (fun x hx => by
      have hne : x ≠ a := fun e => (List.nodup_cons.1 hn).1 (e ▸ hx)
      exact (List.mem_erase_of_ne hne).2 (hs x (by simp [hx])))
    rw [List.length_erase_of_mem ha] at h1
    have : 0 < m.length := List.length_pos_of_mem ha
    simp; omega
theorem upto_mem (n x : Nat) : x ∈ (List.range n).map (· + 1) ↔ 1 ≤ x ∧ x ≤ n := by
  simp only [List.mem_map, List.mem_range]
  constructor
  · rintro ⟨a, h, rfl⟩; omega
  · intro h; exact ⟨x - 1, by omega, by omega⟩
end Go.Proofs.YtnjiinbhbjpfkaaGreatDoor.B
namespace Go.Proofs.YtnjiinbhbjpfkaaGreatDoor
open Go.RowKit
abbrev vA (v : B.V) : Value := .agg #[.int .i64 (v.1 : Int), .int .i64 v.2]
def regP (R : Nat → B.V) : Nat → Value := fun j => if j % 2 = 0 then .int .i64 ((R (j / 2)).1 : Int) else .int .i64 (R (j / 2)).2
theorem regP_0 (R : Nat → B.V) (i : Nat) : regP R (i * 2) = .int .i64 ((R i).1 : Int) := by unfold regP; rw [if_pos (by omega), show i * 2 / 2 = i by omega]
theorem regP_1 (R : Nat → B.V) (i : Nat) : regP R (i * 2 + 1) = .int .i64 (R i).2 := by unfold regP; rw [if_neg (by omega), show (i * 2 + 1) / 2 = i by omega]
def frmB (cb L nx rb nr : Nat) (back : Value) : Obj := .cells #[.slice (some ⟨cb, 0, none⟩) L L, .int .i64 nx, .slice (some ⟨rb, 0, none⟩) nr nr, back] 241 (0, 0)
abbrev stepV (op a b c fb tb eb : Nat) : Value := .agg #[.int .u8 op, .int .u8 a, .int .u8 b, .int .u8 c, P0 fb, P0 tb, P0 eb]
theorem frm_cells {w : World} {fb cb L nx rb nr : Nat} {back : Value} (h : w.heap[fb]? = some (frmB cb L nx rb nr back)) : w.cell? ⟨fb, 0, none⟩ = some (.slice (some ⟨cb, 0, none⟩) L L) ∧ w.cell? ⟨fb, 1, none⟩ = some (.int .i64 nx) ∧ w.cell? ⟨fb, 2, none⟩ = some (.slice (some ⟨rb, 0, none⟩) nr nr) ∧ w.cell? ⟨fb, 3, none⟩ = some back ∧ w.frozen? ⟨fb, 1, none⟩ = false := by
  simp [World.cell?, World.frozen?, h, frmB]
theorem number_any (n : Int) (w : World) : Calls Tryz.prog 61 #[.int .i64 n] w fun e w' => e = .returned (vA (0, n)) ∧ w' = w.alloc (.cells #[.int .i64 0, .int .i64 n] 149) := by
  go_enter Tryz.func61, Tryz.ntmps61
  go_wp2
  refine bodyPost_ret (v := .agg #[.int .i64 0, .int .i64 n]) (by simp [results, Tryz.results61, go_sem]) rfl ⟨rfl, rfl⟩
theorem isCell_any (v : B.V) (w : World) : Calls Tryz.prog 198 #[vA v] w fun e w' => e = .returned (.bool (decide (v.1 ≠ 0))) ∧ w.grownBy w' none := by
  obtain ⟨v1, v2⟩ := v
  by_cases h : v1 = 0
  · subst h
    go_enter Tryz.func198, Tryz.ntmps198
    go_wp2_with fail
    go_ret
    exact ⟨rfl, World.grownBy_alloc _ _ _⟩
  · have h2 : decide (0 < v1) = true := by simp; omega
    have h3 : decide (v1 ≠ 0) = true := by simpa using h
    rw [show (v1, v2).1 = v1 from rfl, h3]
    have H2 := hid h2
    clear h h3 h2
    go_enter Tryz.func198, Tryz.ntmps198
    go_wp2_with fail
    go_ret
    refine ⟨?_, World.grownBy_alloc _ _ _⟩
    show Ending.returned (Value.bool (decide (0 < v1))) = _
    rw [H2.out]
theorem place_any (k : Nat) (x : Int) (hk : k ≤ 200) (w : World) : Calls Tryz.prog 201 #[vA (k + 1, x)] w fun e w' => e = .returned (.int .i64 (k : Int)) ∧ w.grownBy w' none := by
  have hsub : (k : Int) + 1 - 1 = (k : Int) := by omega
  have hwr : IntKind.i64.wrap (k : Int) = (k : Int) := by simp [IntKind.wrap, IntKind.bits, IntKind.signed]; omega
  have hwr2 : wrap64 (k : Int) = (k : Int) := IntWalk.wrap64_in (k : Int) ⟨by omega, by omega⟩
  go_enter Tryz.func201, Tryz.ntmps201
  go_wp2_with fail
  go_ret
  exact ⟨rfl, World.grownBy_alloc _ _ _⟩
theorem vnumber_any (v : B.V) (w : World) : Calls Tryz.prog 152 #[vA v] w fun e w' => e = .returned (.tuple #[.int .i64 v.2, .bool (decide (v.1 = 0))]) ∧ w.grownBy w' none := by
  have hic := isCell_any v
  have hd : (!decide (v.1 ≠ 0)) = decide (v.1 = 0) := by by_cases h : v.1 = 0 <;> simp [h]
  obtain ⟨c, n⟩ := v
  simp only at hic hd ⊢
  generalize decide (c ≠ 0) = d at *
  generalize decide (c = 0) = d2 at *
  have HI := hid hic
  clear hic
  go_enter Tryz.func152, Tryz.ntmps152
  go_wp2_with fail
  generalize hW : w.alloc (.cells #[.int .i64 (c : Int), .int .i64 n] 149) = w1
  have KG1 : Hid (w.grownBy w1 none) := by rw [← hW]; exact World.grownBy_alloc _ _ _
  have hx1 : w1.heap[w.heap.size]? = some (.cells #[.int .i64 (c : Int), .int .i64 n] 149 (0, 0)) := by rw [← hW]; exact heap_alloc_new w _
  have c0 : w1.cell? ⟨w.heap.size, 0, none⟩ = some (.int .i64 (c : Int)) := by simp [World.cell?, hx1]
  have c1 : w1.cell? ⟨w.heap.size, 1, none⟩ = some (.int .i64 n) := by simp [World.cell?, hx1]
  have lx1 := heap_lt hx1
  clear hW hx1
  have HS : Hid (∀ w' : World, w1.grownBy w' none → w'.cell? ⟨w.heap.size, 0, none⟩ = some (.int .i64 (c : Int)) ∧ w'.cell? ⟨w.heap.size, 1, none⟩ = some (.int .i64 n)) :=
    fun w' hg => ⟨(grown_cell hg (a := ⟨w.heap.size, 0, none⟩) lx1).1.trans c0, (grown_cell hg (a := ⟨w.heap.size, 1, none⟩) lx1).1.trans c1⟩
  go_region_held3 (fun w' => w'.cell? ⟨w.heap.size, 0, none⟩ = some (.int .i64 (c : Int)) ∧ w'.cell? ⟨w.heap.size, 1, none⟩ = some (.int .i64 n)) (first | exact HS.out _ (grown_drew (grown_refl _ _)) | exact HS.out _ HG2.out) (first | (go_at_call 198; refine (HI.out w1.drew).mono ?_; rintro e w2 ⟨rfl, hg2⟩; have HG2 : Hid (w1.grownBy w2 none) := ⟨hg2.os, hg2.tape, hg2.output, hg2.size, hg2.block⟩; clear hg2))
  all_goals
    go_wp2_with fail
    go_ret2
    exact ⟨rfl, grown_trans KG1.out HG2.out⟩
set_option maxRecDepth 100000 in
theorem a_any (op a b c fb tb eb cb L nx rb nr : Nat) (back : Value) (R : Nat → B.V) (w : World) (hf : w.heap[fb]? = some (frmB cb L nx rb nr back)) (hr : Full w rb 149 (nr * 2) (nr * 2) (regP R)) (hb : a < nr) :
    Calls Tryz.prog 98 #[stepV op a b c fb tb eb] w fun e w' => e = .returned (vA (R a)) ∧ w.grownBy w' none := by
  obtain ⟨_, _, c2, _, _⟩ := frm_cells hf
  have r0 := hr.cell (a * 2) (by omega)
  have r1 := hr.cell (a * 2 + 1) (by omega)
  rw [regP_0] at r0
  rw [regP_1] at r1
  have l0 := heap_lt hf
  have l1 := hr.lt
  have l0' : fb < w.heap.size + 1 := by omega
  have l1' : rb < w.heap.size + 1 := by omega
  clear hf hr
  have hbi : (a : Int) < (nr : Int) := by omega
  go_enter Tryz.func98, Tryz.ntmps98
  go_wp2_with fail
  go_region
  all_goals
    go_wp2_with fail
    refine bodyPost_ret (v := vA (R a)) (by simp [results, Tryz.results98, go_sem]) rfl ⟨rfl, ?_⟩
    repeat (first | exact grown_refl _ _ | refine grown_drew ?_ | refine grown_alloc ?_ _)
set_option maxRecDepth 100000 in
theorem b_any (op a b c fb tb eb cb L nx rb nr : Nat) (back : Value) (R : Nat → B.V) (w : World) (hf : w.heap[fb]? = some (frmB cb L nx rb nr back)) (hr : Full w rb 149 (nr * 2) (nr * 2) (regP R)) (hb : b < nr) :
    Calls Tryz.prog 86 #[stepV op a b c fb tb eb] w fun e w' => e = .returned (vA (R b)) ∧ w.grownBy w' none := by
  obtain ⟨_, _, c2, _, _⟩ := frm_cells hf
  have r0 := hr.cell (b * 2) (by omega)
  have r1 := hr.cell (b * 2 + 1) (by omega)
  rw [regP_0] at r0
  rw [regP_1] at r1
  have l0 := heap_lt hf
  have l1 := hr.lt
  have l0' : fb < w.heap.size + 1 := by omega
  have l1' : rb < w.heap.size + 1 := by omega
  clear hf hr
  have hbi : (b : Int) < (nr : Int) := by omega
  go_enter Tryz.func86, Tryz.ntmps86
  go_wp2_with fail
  go_region
  all_goals
    go_wp2_with fail
    refine bodyPost_ret (v := vA (R b)) (by simp [results, Tryz.results86, go_sem]) rfl ⟨rfl, ?_⟩
    repeat (first | exact grown_refl _ _ | refine grown_drew ?_ | refine grown_alloc ?_ _)
set_option maxRecDepth 100000 in
theorem c_any (op a b c fb tb eb cb L nx rb nr : Nat) (back : Value) (R : Nat → B.V) (w : World) (hf : w.heap[fb]? = some (frmB cb L nx rb nr back)) (hr : Full w rb 149 (nr * 2) (nr * 2) (regP R)) (hb : c < nr) :
    Calls Tryz.prog 94 #[stepV op a b c fb tb eb] w fun e w' => e = .returned (vA (R c)) ∧ w.grownBy w' none := by
  obtain ⟨_, _, c2, _, _⟩ := frm_cells hf
  have r0 := hr.cell (c * 2) (by omega)
  have r1 := hr.cell (c * 2 + 1) (by omega)
  rw [regP_0] at r0
  rw [regP_1] at r1
  have l0 := heap_lt hf
  have l1 := hr.lt
  have l0' : fb < w.heap.size + 1 := by omega
  have l1' : rb < w.heap.size + 1 := by omega
  clear hf hr
  have hbi : (c : Int) < (nr : Int) := by omega
  go_enter Tryz.func94, Tryz.ntmps94
  go_wp2_with fail
  go_region
  all_goals
    go_wp2_with fail
    refine bodyPost_ret (v := vA (R c)) (by simp [results, Tryz.results94, go_sem]) rfl ⟨rfl, ?_⟩
    repeat (first | exact grown_refl _ _ | refine grown_drew ?_ | refine grown_alloc ?_ _)
theorem regP_set (R : Nat → B.V) (a : Nat) (v : B.V) (j : Nat) (hj : j ≠ a * 2) (hj2 : j ≠ a * 2 + 1) : regP (B.set R a v) j = regP R j := by
  unfold regP
  rw [B.set_off _ _ _ _ (by omega)]
theorem Full.reg {w : World} {rb nr : Nat} {R : Nat → B.V} (h : Full w rb 149 (nr * 2) (nr * 2) (regP R)) (a : Nat) (v : B.V) :
    Full ((w.setCell ⟨rb, a * 2, none⟩ (.int .i64 (v.1 : Int))).setCell ⟨rb, a * 2 + 1, none⟩ (.int .i64 v.2)) rb 149 (nr * 2) (nr * 2) (regP (B.set R a v)) := by
  obtain ⟨cur, h1, h2, h3⟩ := h
  refine ⟨(cur.setIfInBounds (a * 2) (.int .i64 (v.1 : Int))).setIfInBounds (a * 2 + 1) (.int .i64 v.2), ?_, by simpa using h2, fun j hj => ?_⟩
  · simp [World.setCell, Array.getElem?_modify, h1]
  · rw [Array.getElem?_setIfInBounds, Array.getElem?_setIfInBounds]
    by_cases e1 : a * 2 + 1 = j
    · subst e1
      rw [if_pos rfl, regP_1, B.set_at]
      simp; omega
    · rw [if_neg e1]
      by_cases e2 : a * 2 = j
      · subst e2
        rw [if_pos rfl, regP_0, B.set_at]
        simp; omega
      · rw [if_neg e2, regP_set R a v j (by omega) (by omega)]
        exact h3 j hj
set_option maxRecDepth 100000 in
theorem set_any (op a b c fb tb eb cb L nx rb nr : Nat) (back : Value) (R : Nat → B.V) (v : B.V) (w : World) (hf : w.heap[fb]? = some (frmB cb L nx rb nr back)) (hr : Full w rb 149 (nr * 2) (nr * 2) (regP R)) (ha : a < nr) :
    Calls Tryz.prog 149 #[stepV op a b c fb tb eb, vA v] w fun e w' => e = .returned (.tuple #[]) ∧ w.grownBy w' (some rb) ∧ Full w' rb 149 (nr * 2) (nr * 2) (regP (B.set R a v)) := by
  obtain ⟨_, _, c2, _, _⟩ := frm_cells hf
  have hblk := hr.blk
  obtain ⟨_, z0⟩ := hblk.cell (a * 2) (by omega)
  obtain ⟨_, z1⟩ := hblk.cell (a * 2 + 1) (by omega)
  have r0 := hr.cell (a * 2) (by omega)
  have r1 := hr.cell (a * 2 + 1) (by omega)
  have l0 := heap_lt hf
  have l1 := hr.lt
  have l0' : fb < w.heap.size + 1 := by omega
  have l1' : rb < w.heap.size + 1 := by omega
  have HR : Hid (Full w rb 149 (nr * 2) (nr * 2) (regP R)) := hr
  clear hf hr hblk
  generalize regP R (a * 2) = y0 at *
  generalize regP R (a * 2 + 1) = y1 at *
  have hbi : (a : Int) < (nr : Int) := by omega
  go_enter Tryz.func149, Tryz.ntmps149
  go_wp2_with fail
  go_region
  all_goals
    go_wp2_with fail
    go_end0
    refine ⟨rfl, ?_, ?_⟩
    · repeat (first | exact grown_refl _ _ | refine grown_drew ?_ | refine grown_alloc ?_ _ | refine grown_setCell ?_ (Or.inl rfl) _)
    · refine (HR.out.reg a v).block ?_
      show (World.alloc _ _).heap[rb]? = _
      rw [Below.heap_alloc _ _ _ (by simp [World.setCell]; omega), Below.heap_alloc _ _ _ (by simp [World.setCell]; omega)]
abbrev insV (op a b c : Nat) : Value := .agg #[.int .u8 op, .int .u8 a, .int .u8 b, .int .u8 c]
set_option maxRecDepth 100000 in
theorem atEnd_any (fb cb L nx rb nr : Nat) (back : Value) (w : World) (hf : w.heap[fb]? = some (frmB cb L nx rb nr back)) :
    Calls Tryz.prog 185 #[P0 fb] w fun e w' => e = .returned (.bool (decide (nx = L))) ∧ w.grownBy w' none := by
  obtain ⟨c0, c1, _, _, _⟩ := frm_cells hf
  have hb : (((nx : Nat) : Int) == (L : Int)) = decide (nx = L) := by
    by_cases h : nx = L <;> simp [h]
    omega
  clear hf
  generalize decide (nx = L) = d at *
  go_enter Tryz.func185, Tryz.ntmps185
  go_wp2_with fail
  go_quiet (fail)
  go_wp2_with fail
  go_ret
  exact ⟨rfl, grown_drewN (grown_refl _ _) _⟩
theorem ofInt16 (a : Nat) (ha : a < 65536) : (BitVec.ofInt 16 (a : Int)).toNat = a := by
  rw [BitVec.ofInt_natCast, BitVec.toNat_ofNat]; exact Nat.mod_eq_of_lt (by omega)
theorem or16 (b c : Nat) (hb : b < 256) (hc : c < 256) : bits BinOp.or IntKind.u16 ((b : Int) * 256) (c : Int) = ((256 * b + c : Nat) : Int) := by
  have hx : b * 256 ||| c = 256 * b + c := by
    have := Nat.shiftLeft_add_eq_or_of_lt (i := 8) (b := c) (by omega) b
    rw [Nat.shiftLeft_eq, show (2 : Nat) ^ 8 = 256 from rfl] at this
    omega
  have e : ((b : Int) * 256) = ((b * 256 : Nat) : Int) := by omega
  rw [e]
  show IntKind.u16.wrap ((BitVec.ofInt 16 ((b * 256 : Nat) : Int) ||| BitVec.ofInt 16 (c : Int)).toNat : Int) = _
  rw [BitVec.toNat_or, ofInt16 (b * 256) (by omega), ofInt16 c (by omega), hx]
  simp [IntKind.wrap, IntKind.bits, IntKind.signed]
  omega
set_option maxRecDepth 100000 in
theorem pair_any (op a b c : Nat) (hb : b < 256) (hc : c < 256) (w : World) : Calls Tryz.prog 150 #[insV op a b c] w fun e w' => e = .returned (.int .u16 (256 * b + c : Nat)) ∧ w' = w.alloc (.cells #[.int .u8 op, .int .u8 a, .int .u8 b, .int .u8 c] 183) := by
  have h16 := or16 b c hb hc
  generalize 256 * b + c = x at *
  go_enter Tryz.func150, Tryz.ntmps150
  go_wp2_with fail
  go_ret
  exact ⟨rfl, rfl⟩
set_option maxRecDepth 100000 in
theorem target_any (op a b c : Nat) (hb : b < 256) (hc : c < 256) (w : World) : Calls Tryz.prog 154 #[insV op a b c] w fun e w' => e = .returned (.int .i64 (256 * b + c : Nat)) ∧ w.grownBy w' none := by
  have hp := pair_any op a b c hb hc
  have hx : 256 * b + c < 65536 := by omega
  generalize 256 * b + c = x at *
  have HP : Hid (∀ w, Calls Tryz.prog 150 #[insV op a b c] w fun e w' => e = .returned (.int .u16 x) ∧ w' = w.alloc (.cells #[.int .u8 op, .int .u8 a, .int .u8 b, .int .u8 c] 183)) := hp
  clear hp
  go_enter Tryz.func154, Tryz.ntmps154
  go_wp2_with fail
  refine (HP.out _).mono ?_
  rintro e w1 ⟨rfl, rfl⟩
  go_wp2_with fail
  go_ret
  exact ⟨rfl, grown_alloc (World.grownBy_alloc _ _ _) _⟩
set_option maxRecDepth 100000 in
theorem inumber_any (op a b c : Nat) (hb : b < 256) (hc : c < 256) (w : World) : Calls Tryz.prog 85 #[insV op a b c] w fun e w' => e = .returned (.int .i64 (B.wide b c)) ∧ w.grownBy w' none := by
  have hp := pair_any op a b c hb hc
  have hx : 256 * b + c < 65536 := by omega
  have hw : B.wide b c = if 256 * b + c < 32768 then ((256 * b + c : Nat) : Int) else ((256 * b + c : Nat) : Int) - 65536 := rfl
  generalize B.wide b c = y at *
  generalize 256 * b + c = x at *
  have HP : Hid (∀ w, Calls Tryz.prog 150 #[insV op a b c] w fun e w' => e = .returned (.int .u16 x) ∧ w' = w.alloc (.cells #[.int .u8 op, .int .u8 a, .int .u8 b, .int .u8 c] 183)) := hp
  have HW : Hid (y = if x < 32768 then (x : Int) else (x : Int) - 65536) := hw
  clear hp hw
  have hcv : IntKind.i16.wrap (x : Int) = y := by
    rw [HW.out]
    split <;> (simp [IntKind.wrap, IntKind.bits, IntKind.signed]; omega)
  have hy : -32768 ≤ y ∧ y ≤ 32767 := by rw [HW.out]; split <;> omega
  obtain ⟨hy1, hy2⟩ := hy
  go_enter Tryz.func85, Tryz.ntmps85
  go_wp2_with fail
  refine (HP.out _).mono ?_
  rintro e w1 ⟨rfl, rfl⟩
  go_wp2_with fail
  go_ret
  exact ⟨rfl, grown_alloc (World.grownBy_alloc _ _ _) _⟩
theorem frm_next {w : World} {fb cb L nx rb nr : Nat} {back : Value} (h : w.heap[fb]? = some (frmB cb L nx rb nr back)) (y : Nat) : (w.setCell ⟨fb, 1, none⟩ (.int .i64 y)).heap[fb]? = some (frmB cb L y rb nr back) := by
  simp [World.setCell, Array.getElem?_modify, h, frmB]
set_option maxRecDepth 100000 in
theorem take_any (fb cb L nx rb nr op a b c : Nat) (back : Value) (w : World) (hf : w.heap[fb]? = some (frmB cb L nx rb nr back)) (hnx : nx < L) (hL : L ≤ 200) (hcb : cb < w.heap.size)
    (k0 : w.cell? ⟨cb, nx * 4, none⟩ = some (.int .u8 op)) (k1 : w.cell? ⟨cb, nx * 4 + 1, none⟩ = some (.int .u8 a)) (k2 : w.cell? ⟨cb, nx * 4 + 2, none⟩ = some (.int .u8 b)) (k3 : w.cell? ⟨cb, nx * 4 + 3, none⟩ = some (.int .u8 c)) :
    Calls Tryz.prog 186 #[P0 fb] w fun e w' => e = .returned (insV op a b c) ∧ w.grownBy w' (some fb) ∧ w'.heap[fb]? = some (frmB cb L (nx + 1) rb nr back) := by
  obtain ⟨c0, c1, _, _, z1⟩ := frm_cells hf
  have l0 := heap_lt hf
  have l0' : fb < w.heap.size + 1 := by omega
  have l1' : cb < w.heap.size + 1 := by omega
  have HF : Hid (w.heap[fb]? = some (frmB cb L nx rb nr back)) := hf
  clear hf
  have hi : (nx : Int) < (L : Int) := by omega
  go_enter Tryz.func186, Tryz.ntmps186
  go_wp2_with fail
  go_region
  all_goals
    go_wp2_with fail
    refine bodyPost_ret (v := insV op a b c) (by simp [results, Tryz.results186, go_sem]) rfl ⟨rfl, ?_, ?_⟩
    · repeat (first | exact grown_refl _ _ | refine grown_drew ?_ | refine grown_alloc ?_ _ | refine grown_setCell ?_ (Or.inl rfl) _ | refine grown_setCell ?_ (Or.inr (by simp)) _)
    · show (World.alloc _ _).heap[fb]? = _
      rw [Below.heap_alloc _ _ _ (by simp [World.setCell]; omega), Below.heap_alloc _ _ _ (by simp [World.setCell]; omega)]
      have := frm_next HF.out (nx + 1)
      simpa using this
abbrev Pt (b o : Nat) : Value := .pointer (some ⟨b, o, none⟩)
theorem empty_any (b o n c : Nat) (ad : Option Addr) (w : World) (h : w.cell? ⟨b, o, none⟩ = some (.slice ad n c)) :
    Calls Tryz.prog 70 #[Pt b o] w fun e w' => e = .returned (.bool (decide (n = 0))) ∧ w' = w := by
  have hb : (((n : Nat) : Int) == 0) = decide (n = 0) := by
    by_cases h : n = 0 <;> simp [h]
  generalize decide (n = 0) = d at *
  go_enter Tryz.func70, Tryz.ntmps70
  go_wp2_with fail
  go_ret
  exact ⟨rfl, rfl⟩
theorem first_any (b o n c qb tb : Nat) (w : World) (h : w.cell? ⟨b, o, none⟩ = some (.slice (some ⟨qb, 0, none⟩) (n + 1) c)) (h2 : w.cell? ⟨qb, 0, none⟩ = some (P0 tb)) :
    Calls Tryz.prog 132 #[Pt b o] w fun e w' => e = .returned (P0 tb) ∧ w' = w := by
  have hn : (0 : Int) < ((n + 1 : Nat) : Int) := by omega
  go_enter Tryz.func132, Tryz.ntmps132
  go_wp2_with fail
  go_ret
  exact ⟨rfl, rfl⟩
theorem lives_any (eb n c : Nat) (ad : Option Addr) (w : World) (h : w.cell? ⟨eb, 29, none⟩ = some (.slice ad n c)) :
    Calls Tryz.prog 66 #[P0 eb] w fun e w' => e = .returned (.bool (decide (0 < n))) ∧ w' = w := by
  go_enter Tryz.func66, Tryz.ntmps66
  go_wp2_with fail
  go_ret
  exact ⟨rfl, rfl⟩
theorem stepOut_none (tb : Nat) (w : World) (h : w.cell? ⟨tb, 3, none⟩ = some (.pointer none)) :
    Calls Tryz.prog 133 #[P0 tb] w fun e w' => e = .returned (.tuple #[]) ∧ w' = w := by
  go_enter Tryz.func133, Tryz.ntmps133
  go_wp2_with fail
  first | go_end0 | (simp only [Exit.inBlock, Exit.then]; refine bodyPost_ret (results_none rfl _ _ _) rfl ?_) | refine bodyPost_ret (results_none rfl _ _ _) rfl ?_
  exact ⟨rfl, rfl⟩
theorem Tryz.info155 : (Tryz.prog.info? 155).map (fun i => (i.zero, i.size, i.bytes)) = some (some (.pointer none), 1, 8) := by kernel_rfl
theorem Tryz.info160 : (Tryz.prog.info? 160).map (fun i => (i.zero, i.size, i.bytes)) = some (some (.agg #[.int .i64 0, .slice none 0 0, .bool false, .pointer none, .nilFunc, .int .i64 0, .slice none 0 0]), 7, 88) := by kernel_rfl
theorem run_append_zero {P : Program} (w : World) (t ty e : TypeId) (i : TypeInfo) (ht : P.underlying t = some (.slice e)) (hi : P.info? e = some i) (base ad : Option Addr) (n cap c : Nat) (hle : n ≤ cap) :
    (Builtin.append_ #[t, t] ty #[.slice base n cap, .slice ad 0 c]).run P w = .ok (.slice base n cap) w := by
  cases base <;> cases ad <;> simp [Builtin.append_, Builtin.lenOf, Builtin.firstCells, run_underlying ht, sizeOf, typeInfo, hi, hle, loadCells, loadCellsFrom, storeCells]
theorem step_append_zero {P : Program} {ops : Array Oper} {o : Oper} {a : Act} {w : World} {K : Act → World → Prop} {Q : Exit → Act → World → Prop} {E : Prop}
    (hg : o.guard = none) (s x : Operand) (t : TypeId) (hop : o.op = Op.call { callee := Callee.builtin Builtin.append, args := #[s, x], argTypes := #[t, t] })
    (e : TypeId) (i : TypeInfo) (h1 : P.underlying t = some (.slice e)) (h2 : P.info? e = some i)
    (base ad : Option Addr) (n cap c : Nat) (hs : a.eval s = .slice base n cap) (hx : a.eval x = .slice ad 0 c) (hle : n ≤ cap)
    (hK : K (a.put o.dst (.slice base n cap)) w) :
    if Region.wanted o (yielded ops a.tmps) = true then Oper.wp P o a w K Q else E := by
  have hw : Region.wanted o (yielded ops a.tmps) = true := by simp [Region.wanted, hg]
  rw [if_pos hw]
  have hrun := run_append_zero (P := P) w t o.type e i h1 h2 base ad n cap c hle
  unfold Oper.wp
  simp [execOp, hop, resolve, invoke, builtin, hs, hx, hrun, Result.andThen]
  exact hK
theorem own_of {w w' : World} {base size n : Nat} {e : TypeId} {v : Value} {xs : List Value} (h : w.ownsRow base e size v n xs) (hk : ∀ k, v.ownBlock = some k → w'.heap[k]? = w.heap[k]?) : w'.ownsRow base e size v n xs := by
  refine ⟨h.1, ?_⟩
  rcases h.2 with h | ⟨g, cap, cur, h1, h2, h3, h4⟩
  · exact Or.inl h
  · exact Or.inr ⟨g, cap, cur, h1, h2, (hk g (by rw [h1]; rfl)).trans h3, h4⟩
theorem own_ty {w : World} {base size n : Nat} {e : TypeId} {v : Value} {xs : List Value} (h : w.ownsRow base e size v n xs) (k : Nat) (hk : v.ownBlock = some k) : base ≤ k ∧ k < w.heap.size ∧ ∃ cur, w.heap[k]? = some (.cells cur e (0, 0)) := by
  rcases h.2 with ⟨h, _⟩ | ⟨g, cap, cur, h1, h2, h3, h4⟩
  · rw [h] at hk; cases hk
  · rw [h1] at hk
    have e' : g = k := by injection hk
    subst e'
    exact ⟨h2, heap_lt h3, cur, h3⟩
theorem own_ne {w : World} {base size n g n' m' : Nat} {e T : TypeId} {v : Value} {xs : List Value} {P : Nat → Value} (h : w.ownsRow base e size v n xs) (hf : Full w g T n' m' P) (hT : T ≠ e) (k : Nat) (hk : v.ownBlock = some k) : k ≠ g := by
  rintro rfl
  obtain ⟨_, _, cur, h1⟩ := own_ty h k hk
  obtain ⟨cur', h2, _⟩ := hf
  rw [h2] at h1
  injection h1 with h1
  injection h1 with _ h1 _
  exact hT h1
theorem wpList_append_in {P : Program} {w : World} {ops : Array Oper} {rest : List Oper} {o : Oper} {a : Act} {Q : Exit → Act → World → Prop} (hgd : o.guard = none) (s x : Operand) (t : TypeId)
    (ho : o.op = .call { callee := .builtin .append, args := #[s, x], argTypes := #[t, t] })
    (base : Nat) (e : TypeId) (i : TypeInfo) (z : Value) (size bytes : Nat) (ht : P.underlying t = some (.slice e)) (hi : P.info? e = some i) (hz : i.zero = some z)
    (hsize : i.size = size) (hby : i.bytes = bytes) (hzs : z.cells.size = size) (hsz : 0 < size)
    (g cap : Nat) (n : Nat) (xs : List Value) (hs : a.eval s = .slice (some ⟨g, 0, none⟩) n cap) (hown : w.ownsRow base e size (.slice (some ⟨g, 0, none⟩) n cap) n xs)
    (ad : Addr) (m c : Nat) (news : List Value) (hx : a.eval x = .slice (some ad) m c) (hl : news.length = m * size) (hnews : ∀ j u, news[j]? = some u → w.cell? (ad.add j) = some u) (h1 : ∀ u ∈ news, u.oneCell' = true)
    (h63 : n + m ≤ maxLen) (hbytes : (n + m) * bytes ≤ 140737488355328) (hbase : base ≤ w.heap.size) (hroom : n + m ≤ cap)
    (h : ∀ w', w'.ownsRow base e size (.slice (some ⟨g, 0, none⟩) (n + m) cap) (n + m) (xs ++ news) → w.grownBy w' (some g) → wpList P ops Q rest (a.put o.dst (.slice (some ⟨g, 0, none⟩) (n + m) cap)) w') : wpList P ops Q (o :: rest) a w := by
  refine wpList_plain hgd fun _ hK => ?_
  obtain ⟨v', w', hr, h2, h3, h4⟩ := run_append_own (P := P) w base t o.type e i z size bytes ht hi hz hsize hby hzs hsz _ n xs hown ad m c news hl hnews h1 h63 hbytes hbase
  have hv : v' = .slice (some ⟨g, 0, none⟩) (n + m) cap := by
    rcases hown.2 with ⟨h, _⟩ | ⟨g', c', cur, h1', _, h2', h3', h4', h5', _⟩
    · cases h
    · cases h1'
      subst hsize
      have hr2 := run_append_room (P := P) w t o.type e i ht hi g n cap cur h2' ad m c news hl hnews h1 hroom (by rw [hl, h5', ← Nat.add_mul]; exact Nat.mul_le_mul_right _ hroom)
      rw [hr] at hr2
      injection hr2
  subst hv
  unfold Oper.wp execOp
  simp only [ho, resolve, invoke, builtin, Sem.run_bind, Sem.run_pure, Result.andThen_ok, List.map_toArray, List.map_cons, List.map_nil, hs, hx, hr]
  exact hK _ _ (h w' h2 h3)
theorem own_mk {w : World} {base g n c : Nat} {e : TypeId} {xs : List Value} (hb : base ≤ g) (hn : n ≤ c) (hm : c ≤ maxLen) (hl : xs.length = n) (hB : Blk w g e c) (hx : ∀ j x, xs[j]? = some x → w.cell? ⟨g, j, none⟩ = some x) : w.ownsRow base e 1 (.slice (some ⟨g, 0, none⟩) n c) n xs := by
  obtain ⟨cur, h1, h2⟩ := hB
  refine ⟨by rw [hl, Nat.mul_one], Or.inr ⟨g, c, cur, rfl, hb, h1, hn, hm, by rw [h2, Nat.mul_one], ?_⟩⟩
  rw [Nat.mul_one]
  apply List.ext_getElem?
  intro j
  by_cases hj : j < n
  · obtain ⟨x, hxj⟩ : ∃ x, xs[j]? = some x := ⟨_, List.getElem?_eq_getElem (by omega)⟩
    have := hx j x hxj
    rw [hxj, List.getElem?_take, if_pos hj]
    simp only [World.cell?, h1] at this
    simpa using this
  · rw [List.getElem?_eq_none (by simp; omega), List.getElem?_eq_none (by omega)]
theorem own_ge {w : World} {base g n c : Nat} {e : TypeId} {xs : List Value} (h : w.ownsRow base e 1 (.slice (some ⟨g, 0, none⟩) n c) n xs) : base ≤ g ∧ n ≤ c ∧ c ≤ maxLen ∧ xs.length = n ∧ Blk w g e c ∧ ∀ j x, xs[j]? = some x → w.cell? ⟨g, j, none⟩ = some x := by
  rcases h with ⟨hl, ⟨h, _⟩ | ⟨g', c', cur, h1, h2, h3, h4, h5, h6, h7⟩⟩
  · cases h
  · cases h1
    rw [Nat.mul_one] at hl h6 h7
    refine ⟨h2, h4, h5, hl, ⟨cur, h3, h6⟩, fun j x hx => ?_⟩
    have hj : j < n := by
      have := (List.getElem?_eq_some_iff.1 hx).1
      omega
    rw [← h7, List.getElem?_take, if_pos hj] at hx
    simp only [World.cell?, h3]
    simpa using hx
theorem grown_sets {w : World} (g : Nat) : ∀ {w1 : World}, w.grownBy w1 (some g) → ∀ (vs : List Value) (o : Nat), w.grownBy (w1.setCells g o vs) (some g)
  | _, h, [], _ => h
  | _, h, _ :: r, o => grown_sets g (grown_setCell h (Or.inl rfl) _) r (o + 1)
theorem grown_some {w w' : World} (h : w.grownBy w' none) (g : Nat) : w.grownBy w' (some g) := { h with block := fun k hk _ => h.block k hk (by intro e; cases e) }
theorem idx_first : ∀ (xs : List Nat) (x j : Nat), xs[j]? = some x → xs.idxOf x ≤ j
  | [], x, j, h => by simp at h
  | y :: xs, x, j, h => by
    rw [List.idxOf_cons]
    by_cases e : y = x
    · rw [e]; simp
    · have hbe : (y == x) = false := by simpa using e
      rw [hbe]
      cases j with
      | zero => simp at h; exact absurd h e
      | succ j =>
        have := idx_first xs x j (by simpa using h)
        show xs.idxOf x + 1 ≤ j + 1
        omega
set_option maxRecDepth 100000 in
theorem sidx_any (g c n tb : Nat) (xs : List Nat) (w : World) (hn : n = xs.length) (hn2 : n ≤ 1000000000) (hc : ∀ j x, xs[j]? = some x → w.cell? ⟨g, j, none⟩ = some (P0 x)) (hT : Blk w tb 160 7) (hX : ∀ x, x ∈ xs → Blk w x 160 7) (hm : tb ∈ xs) :
    Calls Tryz.prog 183 #[.slice (some ⟨g, 0, none⟩) n c, P0 tb] w fun e w' => e = .returned (.int .i64 (xs.idxOf tb : Nat)) ∧ w' = w := by
  obtain ⟨i0, hi, hz0, hz1, hz2⟩ := info_parts Tryz.info160
  have heq := fun (w : World) => run_eql_ptr_same (P := Tryz.prog) (w := w) (tp := 155) (te := 160) ⟨tb, 0, none⟩ Tryz.underlying155 hi
  have hlt : xs.idxOf tb < xs.length := List.idxOf_lt_length_of_mem hm
  have HC := hid hc
  have HT := hid hT
  have HX := hid hX
  have HL := hid hlt
  have HN := hid hn
  clear hc hT hX hlt hm hn
  go_enter Tryz.func183, Tryz.ntmps183
  go_wp2_with fail
  go_loopw [8] (fun i wr => ∃ j : Nat, i = .int .i64 j ∧ j ≤ xs.idxOf tb ∧ wr = w) (fun i _ => xs.idxOf tb - (intOf i).toNat)
  case atStart => exact ⟨0, rfl, by omega, rfl⟩
  case round =>
    obtain ⟨j, rfl, hj, rfl⟩ := hrel
    have hjn : j < n := by have := HL.out; have := HN.out; omega
    obtain ⟨x, hx⟩ : ∃ x, xs[j]? = some x := ⟨_, List.getElem?_eq_getElem (by have := HN.out; omega)⟩
    have cj := HC.out j x hx
    by_cases hjt : j = xs.idxOf tb
    · have hxt : x = tb := by
        have := List.getElem_idxOf (x := tb) HL.out
        rw [List.getElem?_eq_some_iff] at hx
        obtain ⟨h1, h2⟩ := hx
        subst hjt
        rw [← h2]; exact this
      subst hxt
      have HJ := hid hjt
      clear hjt
      go_wp2_with fail
      go_ret
      exact ⟨by simp [HJ.out], rfl⟩
    · have hxt : x ≠ tb := by
        intro e
        subst e
        have hle : xs.idxOf x ≤ j := idx_first xs x j hx
        omega
      have hmx : x ∈ xs := List.mem_of_getElem? hx
      obtain ⟨ct, bt, _⟩ := HT.out
      obtain ⟨cx, bx, _⟩ := HX.out x hmx
      have heq2 := run_eql_ptr_other (P := Tryz.prog) (w := wr) (tp := 155) (te := 160) (a := ⟨tb, 0, none⟩) (b := ⟨x, 0, none⟩) Tryz.underlying155 hi (by rw [hz1]; decide) (by intro e; injection e with e; exact hxt e.symm) bt bx
      clear bt bx
      go_wp2_with fail
      go_roundw
      case rel => exact ⟨j + 1, by go_num, by omega, trivial⟩
      case measure => simp [intOf]; omega
set_option maxRecDepth 100000 in
set_option maxHeartbeats 2000000 in
theorem sdel_any (g c n i base : Nat) (xs : List Value) (w : World) (hown : w.ownsRow base 155 1 (.slice (some ⟨g, 0, none⟩) n c) n xs) (hin : i < n) (h1 : ∀ x, x ∈ xs → x.oneCell' = true) (hn2 : n ≤ 1000000000) :
    Calls Tryz.prog 184 #[.slice (some ⟨g, 0, none⟩) n c, .int .i64 (i : Int), .int .i64 ((i : Int) + 1)] w fun e w' => e = .returned (.slice (some ⟨g, 0, none⟩) (n - 1) c) ∧ w'.ownsRow base 155 1 (.slice (some ⟨g, 0, none⟩) (n - 1) c) (n - 1) (xs.eraseIdx i) ∧ w.grownBy w' (some g) := by
  obtain ⟨hb, hc, hm, hl, hB, hx⟩ := own_ge hown
  clear hown
  obtain ⟨i0, hi, hz0, hz1, hz2⟩ := info_parts Tryz.info155
  have hv : ∀ w, (zeroValue 155).run Tryz.prog w = .ok (.pointer none) w := by intro w; simp [zeroValue, typeInfo, hi, hz0]
  have hrun : ∀ (ty : TypeId) (w1 : World) (c' : Nat), Blk w1 g 155 c → (Builtin.clear_ #[136] ty #[.slice (some ⟨g, n - 1, none⟩) 1 c']).run Tryz.prog w1 = .ok (.tuple #[]) (w1.setCell ⟨g, n - 1, none⟩ (.pointer none)) := by
    intro ty w1 c' hB1
    refine Go.Lib.run_clear_slice (P := Tryz.prog) w1 136 155 ty (.pointer none) Tryz.underlying136 hv rfl rfl g (n - 1) 1 c' (by omega) ?_ ?_
    · intro j hj
      obtain ⟨⟨v, h⟩, _⟩ := hB1.cell (n - 1 + j) (by omega)
      rw [h]; rfl
    · intro j hj
      exact (hB1.cell (n - 1 + j) (by omega)).2
  have hic : i ≤ c := by omega
  have h0i : (0 : Int) ≤ (i : Int) + 1 := by omega
  have hi1c : i + 1 ≤ c := by omega
  have hci : (n : Int) ≤ (c : Int) := by omega
  have hii : (i : Int) + 1 ≤ (n : Int) := by omega
  have hmi : (c : Int) ≤ 9223372036854775807 := by unfold maxLen at hm; omega
  have HB := hid hB
  have HX := hid hx
  have H1 := hid h1
  have HL := hid hl
  have HRUN := hid hrun
  have HM := hid hm
  clear hB hx h1 hl hrun hm
  by_cases hlast : i + 1 = n
  · obtain rfl : n = i + 1 := hlast.symm
    have cl : ∀ (ty : TypeId) (c' : Nat), (Builtin.clear_ #[136] ty #[.slice (some ⟨g, i, none⟩) 1 c']).run Tryz.prog w.drew = .ok (.tuple #[]) (w.drew.setCell ⟨g, i, none⟩ (.pointer none)) := fun ty c' => HRUN.out ty w.drew c' HB.out
    clear hlast
    go_enter Tryz.func184, Tryz.ntmps184
    go_wp2_with fail
    go_region_law (refine step_append_zero rfl (.tmp 22) (.tmp 25) 136 rfl 155 i0 Tryz.underlying136 hi (some ⟨g, 0, none⟩) (if c = i + 1 then some ⟨g, 0, none⟩ else some ⟨g, i + 1, none⟩) i c (c - (i + 1)) (by first | rfl | simp [Act.eval, Act.put]) (by first | rfl | simp [Act.eval, Act.put]) (by omega) ?_)
    all_goals
      go_wp2_with fail
      all_goals
        go_ret
        refine ⟨rfl, own_mk hb (by omega) (by have := HM.out; omega) (by rw [List.length_eraseIdx, if_pos (by rw [HL.out]; omega), HL.out]; omega) (by obtain ⟨cu, k1, k2⟩ := HB.out.set g i (.pointer none); exact ⟨cu, k1, by omega⟩) (fun j x hx => ?_), ?_⟩
        · have hj : j < i := by
            have := (List.getElem?_eq_some_iff.1 hx).1
            rw [List.length_eraseIdx, if_pos (by rw [HL.out]; omega), HL.out] at this
            omega
          rw [List.getElem?_eraseIdx_of_lt hj] at hx
          have := HX.out j x hx
          have h2 : (World.setCell w ⟨g, i, none⟩ (.pointer none)).cell? ⟨g, j, none⟩ = some x := by
            rw [World.cell?_setCell_other _ _ _ _ (by intro e; injection e with _ e; omega)]; exact this
          exact h2
        · repeat (first | exact grown_refl _ _ | refine grown_drew ?_ | refine grown_setCell ?_ (Or.inl rfl) _)
  · obtain ⟨m, hnm⟩ : ∃ m, n = i + 1 + m := ⟨n - (i + 1), by omega⟩
    have hm1 : 1 ≤ m := by omega
    subst hnm
    have hne : ¬ c = i + 1 := by omega
    have r1 : (xs.drop (i + 1)).length = m * 1 := by rw [List.length_drop, HL.out, Nat.mul_one]; omega
    have r2 : ∀ j u, (xs.drop (i + 1))[j]? = some u → w.drew.cell? ((⟨g, i + 1, none⟩ : Addr).add j) = some u := fun j u hu => by
      rw [List.getElem?_drop] at hu
      have := HX.out (i + 1 + j) u hu
      cases j with
      | zero => simpa [Addr.add] using this
      | succ j => simpa [Addr.add] using this
    have r3 : ∀ u, u ∈ xs.drop (i + 1) → u.oneCell' = true := fun u hu => H1.out u (List.mem_of_mem_drop hu)
    have r5 : ∀ j, j < (xs.drop (i + 1)).length → (w.drew.cell? ⟨g, 0 + i * 1 + j, none⟩).isSome = true ∧ w.drew.frozen? ⟨g, 0 + i * 1 + j, none⟩ = false := fun j hj => by
      rw [r1] at hj
      obtain ⟨⟨v, h⟩, hf⟩ := HB.out.cell (0 + i * 1 + j) (by omega)
      have h' : w.drew.cell? ⟨g, 0 + i * 1 + j, none⟩ = some v := h
      exact ⟨by rw [h']; rfl, hf⟩
    have HR := hid (And.intro r1 (And.intro r2 (And.intro r3 r5)))
    have e1 : i + 1 + m - (i + 1) = m := by omega
    have e2 : i + 1 + m - (i + m) = 1 := by omega
    have e3 : i + m ≤ c := by omega
    have e4 : i + m ≤ i + 1 + m := by omega
    have e5 : i + 1 + m ≤ c := by omega
    have e6 : (i : Int) + 1 ≤ (i : Int) + 1 + (m : Int) := by omega
    have BS : Blk (w.drew.setCells g i (xs.drop (i + 1))) g 155 c := Blk.sets g _ _ _ (show Blk w.drew g 155 c from HB.out)
    have cl : ∀ (ty : TypeId) (c' : Nat), (Builtin.clear_ #[136] ty #[.slice (some ⟨g, i + m, none⟩) 1 c']).run Tryz.prog (w.drew.setCells g i (xs.drop (i + 1))) = .ok (.tuple #[]) ((w.drew.setCells g i (xs.drop (i + 1))).setCell ⟨g, i + m, none⟩ (.pointer none)) := fun ty c' => by
      have := HRUN.out ty _ c' BS
      rw [show i + 1 + m - 1 = i + m by omega] at this
      exact this
    have HBS := hid BS
    clear r1 r2 r3 r5 hlast BS
    go_enter Tryz.func184, Tryz.ntmps184
    go_wp2_with fail
    go_region_law (refine step_append_room rfl (.tmp 22) (.tmp 25) 136 rfl 155 i0 1 Tryz.underlying136 hi hz1 g 0 i c (by first | rfl | simp [Act.eval, Act.put]) ⟨g, i + 1, none⟩ m (c - (i + 1)) (xs.drop (i + 1)) (by first | rfl | simp [Act.eval, Act.put]) HR.out.1 HR.out.2.1 HR.out.2.2.1 (by omega) HR.out.2.2.2 ?_)
    all_goals
      go_wp2_with fail
      go_ret
      rw [show i + 1 + m - 1 = i + m by omega]
      have hin2 : ∀ j, j < (xs.drop (i + 1)).length → (w.drew.cell? ⟨g, i + j, none⟩).isSome = true := fun j hj => by
        have := (HR.out.2.2.2 j hj).1
        simpa using this
      refine ⟨rfl, own_mk hb (by omega) HM.out (by rw [List.length_eraseIdx, if_pos (by rw [HL.out]; omega), HL.out]; omega) (by obtain ⟨cu, k1, k2⟩ := HBS.out.set g (i + m) (.pointer none); exact ⟨cu, k1, k2⟩) (fun j x hx => ?_), ?_⟩
      · have hj : j < i + m := by
          have := (List.getElem?_eq_some_iff.1 hx).1
          rw [List.length_eraseIdx, if_pos (by rw [HL.out]; omega), HL.out] at this
          omega
        have h2 : ((w.drew.setCells g i (xs.drop (i + 1))).setCell ⟨g, i + m, none⟩ (.pointer none)).cell? ⟨g, j, none⟩ = some x := by
          rw [World.cell?_setCell_other _ _ _ _ (by intro e; injection e with _ e; omega)]
          by_cases hji : j < i
          · rw [World.cell?_setCells_out g _ _ _ _ (fun _ _ => Or.inl hji)]
            rw [List.getElem?_eraseIdx_of_lt hji] at hx
            exact HX.out j x hx
          · obtain ⟨t, rfl⟩ : ∃ t, j = i + t := ⟨j - i, by omega⟩
            rw [List.getElem?_eraseIdx_of_ge (by omega)] at hx
            have hd : (xs.drop (i + 1))[t]? = some x := by rw [List.getElem?_drop, ← hx]; congr 1; omega
            have ht := (List.getElem?_eq_some_iff.1 hd).1
            rw [World.cell?_setCells_in g _ _ _ hin2 t ht]
            obtain ⟨_, hv⟩ := List.getElem?_eq_some_iff.1 hd
            rw [hv]
        exact h2
      · repeat (first | exact grown_refl _ _ | refine grown_drew ?_ | refine grown_setCell ?_ (Or.inl rfl) _ | refine grown_sets g ?_ _ _)
theorem wpList_append_new {P : Program} {w : World} {ops : Array Oper} {rest : List Oper} {o : Oper} {a : Act} {Q : Exit → Act → World → Prop} (hgd : o.guard = none) (s x : Operand) (t : TypeId)
    (ho : o.op = .call { callee := .builtin .append, args := #[s, x], argTypes := #[t, t] })
    (e : TypeId) (i : TypeInfo) (z : Value) (size bytes : Nat) (ht : P.underlying t = some (.slice e)) (hi : P.info? e = some i) (hz : i.zero = some z)
    (hsize : i.size = size) (hby : i.bytes = bytes) (hzs : z.cells.size = size) (hsz : 0 < size)
    (base : Nat) (ao : Option Addr) (n cap : Nat) (xs : List Value) (hs : a.eval s = .slice ao n cap) (hown : w.ownsRow base e size (.slice ao n cap) n xs)
    (ad : Addr) (m c : Nat) (news : List Value) (hx : a.eval x = .slice (some ad) m c) (hl : news.length = m * size) (hnews : ∀ j u, news[j]? = some u → w.cell? (ad.add j) = some u) (h1 : ∀ u ∈ news, u.oneCell' = true)
    (h63 : n + m ≤ maxLen) (hbytes : (n + m) * bytes ≤ 140737488355328) (hfull : cap < n + m)
    (h : ∀ v' w', w'.ownsRow w.heap.size e size v' (n + m) (xs ++ news) → w.grownBy w' none → wpList P ops Q rest (a.put o.dst v') w') : wpList P ops Q (o :: rest) a w := by
  refine wpList_plain hgd fun _ hK => ?_
  have key : ∃ v' w', (Builtin.append_ #[t, t] o.type #[.slice ao n cap, .slice (some ad) m c]).run P w = .ok v' w' ∧ w'.ownsRow w.heap.size e size v' (n + m) (xs ++ news) ∧ w.grownBy w' none := by
    rcases hown with ⟨hlx, ⟨hv, h0⟩ | ⟨g, c', cur, hv, _, h2, h3, h4, h5, h6⟩⟩
    · injection hv with e1 e2 e3
      subst e1 e2 e3
      obtain rfl : xs = [] := List.eq_nil_of_length_eq_zero (by simpa using hlx)
      obtain ⟨v', w', hrun, r1, r2, _⟩ := run_append_own (P := P) w w.heap.size t o.type e i z size bytes ht hi hz hsize hby hzs hsz (.slice none 0 0) 0 [] (World.ownsRow_nil w _ e size) ad m c news hl hnews h1 h63 hbytes (Nat.le_refl _)
      exact ⟨v', w', hrun, r1, r2⟩
    · injection hv with e1 e2 e3
      subst e1 e3
      have hxc : ∀ j u, xs[j]? = some u → w.cell? ((⟨g, 0, none⟩ : Addr).add j) = some u := fun j u hu => by
        have hj : j < n * size := by
          have := (List.getElem?_eq_some_iff.1 hu).1
          omega
        rw [← h6, List.getElem?_take, if_pos hj] at hu
        have hcu : w.cell? ⟨g, j, none⟩ = some u := by
          simp only [World.cell?, h2]
          simpa using hu
        cases j with
        | zero => simpa [Addr.add] using hcu
        | succ j => simpa [Addr.add] using hcu
      obtain ⟨v', w', hrun, r1, r2⟩ := run_append_arg_grows (P := P) w t o.type e i z size bytes ht hi hz hsize hby hzs hsz ⟨g, 0, none⟩ n cap xs hlx hxc ad m c news hl hnews hfull h63 hbytes
      exact ⟨v', w', hrun, r1, r2⟩
  obtain ⟨v', w', hr, h2, h3⟩ := key
  unfold Oper.wp execOp
  simp only [ho, resolve, invoke, builtin, Sem.run_bind, Sem.run_pure, Result.andThen_ok, List.map_toArray, List.map_cons, List.map_nil, hs, hx, hr]
  exact hK _ _ (h v' w' h2 h3)
theorem own_base {w : World} {b b' size n : Nat} {e : TypeId} {v : Value} {xs : List Value} (h : w.ownsRow b e size v n xs) (hb : b' ≤ b) : w.ownsRow b' e size v n xs := by
  rcases h with ⟨h1, h2 | ⟨g, c, cur, h2, h3, h4⟩⟩
  · exact ⟨h1, Or.inl h2⟩
  · exact ⟨h1, Or.inr ⟨g, c, cur, h2, Nat.le_trans hb h3, h4⟩⟩
def Apd (w w' : World) (v : Value) (n base : Nat) (xs : List Value) (y : Value) (e : Ending) : Prop :=
  ∃ g' c', e = .returned (.slice (some ⟨g', 0, none⟩) (n + 1) c') ∧ w'.ownsRow base 155 1 (.slice (some ⟨g', 0, none⟩) (n + 1) c') (n + 1) (xs ++ [y]) ∧ w.grownBy w' v.ownBlock ∧ (v.ownBlock = some g' ∨ w.heap.size ≤ g')
set_option maxRecDepth 100000 in
set_option maxHeartbeats 2000000 in
theorem sapp_any (n base x : Nat) (y : Value) (xs : List Value) (hy : y.oneCell' = true) (w : World) (ad : Option Addr) (c : Nat) (hown : w.ownsRow base 155 1 (.slice ad n c) n xs) (hx : w.cell? ⟨x, 0, none⟩ = some y) (hb : base ≤ w.heap.size) (hn2 : n ≤ 1000000000) :
    Calls Tryz.prog 203 #[.slice ad n c, .int .i64 (n : Int), .slice (some ⟨x, 0, none⟩) 1 1] w fun e w' => Apd w w' (.slice ad n c) n base xs y e := by
  obtain ⟨i0, hi, hz0, hz1, hz2⟩ := info_parts Tryz.info155
  have HO : Hid (w.ownsRow base 155 1 (.slice ad n c) n xs) := hown
  have hnc : n ≤ c := by
    rcases hown.2 with ⟨h, h0⟩ | ⟨g', c', cur, h1, _, _, h4, _⟩
    · injection h; omega
    · injection h1; omega
  have hcm : (c : Int) ≤ 9223372036854775807 := by
    rcases hown.2 with ⟨h, h0⟩ | ⟨g', c', cur, h1, _, _, h4, h5, _⟩
    · injection h; omega
    · injection h1; unfold maxLen at h5; omega
  have hroom : n < c → ∃ g, ad = some ⟨g, 0, none⟩ := fun hlt => by
    rcases hown.2 with ⟨h, h0⟩ | ⟨g', c', cur, h1, _⟩
    · injection h; omega
    · injection h1 with h1; exact ⟨g', h1⟩
  clear hown
  by_cases hlt : n < c
  · obtain ⟨g, rfl⟩ := hroom hlt
    clear hroom
    go_enter Tryz.func203, Tryz.ntmps203
    go_wp2_with (at_builtin; refine wpList_append_in rfl (.tmp 23) (.tmp 24) 136 rfl base 155 i0 _ 1 8 Tryz.underlying136 hi hz0 hz1 hz2 rfl (by decide) _ _ _ _ rfl HO.out ⟨x, 0, none⟩ 1 1 [y] rfl rfl ?c1 ?c2 ?c3 ?c4 ?c5 ?c6 ?_)
    try case c1 => intro j u hj; match j, hj with | 0, hj => (simp at hj; subst hj; simpa [Addr.add] using hx)
    try case c2 => intro u hu; simp at hu; subst hu; exact hy
    try case c3 => unfold maxLen; omega
    try case c4 => omega
    try case c5 => exact hb
    try case c6 => omega
    intro w' ho hg
    go_wp2_with fail
    go_ret
    exact ⟨g, c, rfl, ho, hg, Or.inl rfl⟩
  · have hform : (ad = none ∧ n = 0 ∧ c = 0) ∨ ∃ g, ad = some ⟨g, 0, none⟩ ∧ n = c := by
      rcases HO.out.2 with ⟨h, h0⟩ | ⟨g', c', cur, h1, _, _, h4, _⟩
      · injection h with a1 a2 a3; exact Or.inl ⟨a1, a2, a3⟩
      · injection h1 with a1 a2 a3; exact Or.inr ⟨g', a1, by omega⟩
    clear hroom
    rcases hform with ⟨rfl, rfl, rfl⟩ | ⟨g, rfl, rfl⟩
    · go_enter Tryz.func203, Tryz.ntmps203
      go_wp2_with (at_builtin; refine wpList_append_new rfl (.tmp 23) (.tmp 24) 136 rfl 155 i0 _ 1 8 Tryz.underlying136 hi hz0 hz1 hz2 rfl (by decide) base _ _ _ _ rfl HO.out ⟨x, 0, none⟩ 1 1 [y] rfl rfl ?c1 ?c2 ?c3 ?c4 ?c5 ?_)
      try case c1 => intro j u hj; match j, hj with | 0, hj => (simp at hj; subst hj; simpa [Addr.add] using hx)
      try case c2 => intro u hu; simp at hu; subst hu; exact hy
      try case c3 => unfold maxLen; omega
      try case c4 => omega
      try case c5 => omega
      intro v' w' ho hg
      obtain ⟨g', c', rfl⟩ := row_form ho (by omega)
      have hge := (own_ge ho).1
      go_wp2_with fail
      go_ret
      exact ⟨g', c', rfl, own_base ho hb, hg, Or.inr hge⟩
    · go_enter Tryz.func203, Tryz.ntmps203
      have hnm : n + 1 ≤ maxLen := by unfold maxLen; omega
      have hfu : n < n + 1 := by omega
      go_wp2_with (at_builtin; refine wpList_append_new rfl (.tmp 23) (.tmp 24) 136 rfl 155 i0 (.pointer none) 1 8 Tryz.underlying136 hi hz0 hz1 hz2 rfl (by decide) base (some ⟨g, 0, none⟩) n n xs rfl HO.out ⟨x, 0, none⟩ 1 1 [y] rfl rfl ?c1 ?c2 hnm ?c4 hfu ?_)
      try case c1 => intro j u hj; match j, hj with | 0, hj => (simp at hj; subst hj; simpa [Addr.add] using hx)
      try case c2 => intro u hu; simp at hu; subst hu; exact hy
      try case c4 => omega
      intro v' w' ho hg
      obtain ⟨g', c', rfl⟩ := row_form ho (by omega)
      have hge := (own_ge ho).1
      go_wp2_with fail
      go_ret
      exact ⟨g', c', rfl, own_base ho hb, grown_some hg g, Or.inr hge⟩
theorem Tryz.info48 : (Tryz.prog.info? 48).map (fun i => (i.zero, i.size, i.bytes)) = some (some (.agg #[.int .i64 0, .int .i64 0, .int .i64 0]), 3, 24) := by kernel_rfl
abbrev Evt := Nat × Nat × Int
def evT (ev : List Evt) : List Value := ev.flatMap (fun x => [.int .i64 (x.1 : Int), .int .i64 (x.2.1 : Int), .int .i64 x.2.2])
theorem evT_app (a b : List Evt) : evT (a ++ b) = evT a ++ evT b := by simp [evT]
def Moved (sz : Nat) (v v' : Value) : Prop := v'.ownBlock = v.ownBlock ∨ ∃ g, v'.ownBlock = some g ∧ sz ≤ g
theorem run_append_at {P : Program} (w : World) (t ty e : TypeId) (i : TypeInfo) (z : Value) (size bytes : Nat) (ht : P.underlying t = some (.slice e)) (hi : P.info? e = some i) (hz : i.zero = some z)
    (hsize : i.size = size) (hby : i.bytes = bytes) (hzs : z.cells.size = size) (hsz : 0 < size) (ao : Option Addr) (n cap : Nat) (xs : List Value) (hown : w.ownsRow 0 e size (.slice ao n cap) n xs)
    (ad : Addr) (m c : Nat) (news : List Value) (hl : news.length = m * size) (hnews : ∀ j u, news[j]? = some u → w.cell? (ad.add j) = some u) (h1 : ∀ u ∈ news, u.oneCell' = true)
    (h63 : n + m ≤ maxLen) (hbytes : (n + m) * bytes ≤ 140737488355328) (hm : 0 < m) :
    ∃ v' w', (Builtin.append_ #[t, t] ty #[.slice ao n cap, .slice (some ad) m c]).run P w = .ok v' w' ∧ w'.ownsRow 0 e size v' (n + m) (xs ++ news) ∧ w.grownBy w' (Value.slice ao n cap).ownBlock ∧ Moved w.heap.size (.slice ao n cap) v' := by
  have hnew : ∀ (v' : Value) (w' : World), w'.ownsRow w.heap.size e size v' (n + m) (xs ++ news) → ∃ g, v'.ownBlock = some g ∧ w.heap.size ≤ g := fun v' w' h => by
    obtain ⟨g, c', rfl⟩ := row_form h (by omega)
    exact ⟨g, rfl, (own_ty h g rfl).1⟩
  rcases id hown with ⟨hlx, ⟨hv, h0⟩ | ⟨g, c', cur, hv, _, h2, h3, h4, h5, h6⟩⟩
  · injection hv with e1 e2 e3
    subst e1 e2 e3
    obtain rfl : xs = [] := List.eq_nil_of_length_eq_zero (by simpa using hlx)
    obtain ⟨v', w', hrun, r1, r2, _⟩ := run_append_own (P := P) w w.heap.size t ty e i z size bytes ht hi hz hsize hby hzs hsz (.slice none 0 0) 0 [] (World.ownsRow_nil w _ e size) ad m c news hl hnews h1 h63 hbytes (Nat.le_refl _)
    exact ⟨v', w', hrun, own_base r1 (Nat.zero_le _), r2, Or.inr (hnew v' w' r1)⟩
  · injection hv with e1 e2 e3
    subst e1 e3
    by_cases hroom : n + m ≤ cap
    · obtain ⟨v', w', hr, r1, r2, _⟩ := run_append_own (P := P) w 0 t ty e i z size bytes ht hi hz hsize hby hzs hsz _ n xs hown ad m c news hl hnews h1 h63 hbytes (Nat.zero_le _)
      refine ⟨v', w', hr, r1, r2, Or.inl ?_⟩
      subst hsize
      have hr2 := run_append_room (P := P) w t ty e i ht hi g n cap cur h2 ad m c news hl hnews h1 hroom (by rw [hl, h5, ← Nat.add_mul]; exact Nat.mul_le_mul_right _ hroom)
      rw [hr] at hr2
      injection hr2 with hr2 _
      rw [hr2]; rfl
    · have hxc : ∀ j u, xs[j]? = some u → w.cell? ((⟨g, 0, none⟩ : Addr).add j) = some u := fun j u hu => by
        have hj : j < n * size := by
          have := (List.getElem?_eq_some_iff.1 hu).1
          omega
        rw [← h6, List.getElem?_take, if_pos hj] at hu
        have hcu : w.cell? ⟨g, j, none⟩ = some u := by
          simp only [World.cell?, h2]
          simpa using hu
        cases j with
        | zero => simpa [Addr.add] using hcu
        | succ j => simpa [Addr.add] using hcu
      obtain ⟨v', w', hrun, r1, r2⟩ := run_append_arg_grows (P := P) w t ty e i z size bytes ht hi hz hsize hby hzs hsz ⟨g, 0, none⟩ n cap xs hlx hxc ad m c news hl hnews (by omega) h63 hbytes
      exact ⟨v', w', hrun, own_base r1 (Nat.zero_le _), grown_some r2 g, Or.inr (hnew v' w' r1)⟩
theorem wp_append_at {P : Program} (w : World) {o : Oper} {a : Act} {K : Act → World → Prop} {Q : Exit → Act → World → Prop} (s x : Operand) (t : TypeId)
    (ho : o.op = .call { callee := .builtin .append, args := #[s, x], argTypes := #[t, t] })
    (e : TypeId) (i : TypeInfo) (z : Value) (size bytes : Nat) (ht : P.underlying t = some (.slice e)) (hi : P.info? e = some i) (hz : i.zero = some z)
    (hsize : i.size = size) (hby : i.bytes = bytes) (hzs : z.cells.size = size) (hsz : 0 < size) (ao : Option Addr) (n cap : Nat) (xs : List Value) (hs : a.eval s = .slice ao n cap) (hown : w.ownsRow 0 e size (.slice ao n cap) n xs)
    (ad : Addr) (m c : Nat) (news : List Value) (hx : a.eval x = .slice (some ad) m c) (hl : news.length = m * size) (hnews : ∀ j u, news[j]? = some u → w.cell? (ad.add j) = some u) (h1 : ∀ u ∈ news, u.oneCell' = true)
    (h63 : n + m ≤ maxLen) (hbytes : (n + m) * bytes ≤ 140737488355328) (hm : 0 < m)
    (h : ∀ v' w', w'.ownsRow 0 e size v' (n + m) (xs ++ news) → w.grownBy w' (Value.slice ao n cap).ownBlock → Moved w.heap.size (.slice ao n cap) v' → K (a.put o.dst v') w') : Oper.wp P o a w K Q := by
  obtain ⟨v', w', hr, h2, h3, h4⟩ := run_append_at (P := P) w t o.type e i z size bytes ht hi hz hsize hby hzs hsz ao n cap xs hown ad m c news hl hnews h1 h63 hbytes hm
  unfold Oper.wp execOp
  simp only [ho, resolve, invoke, builtin, Sem.run_bind, Sem.run_pure, Result.andThen_ok, List.map_toArray, List.map_cons, List.map_nil, hs, hx, hr]
  exact h v' w' h2 h3 h4
theorem step_append_at {P : Program} (w : World) {ops : Array Oper} {o : Oper} {a : Act} {K : Act → World → Prop} {Q : Exit → Act → World → Prop} {E : Prop} (hgd : o.guard = none) (s x : Operand) (t : TypeId)
    (ho : o.op = .call { callee := .builtin .append, args := #[s, x], argTypes := #[t, t] })
    (e : TypeId) (i : TypeInfo) (z : Value) (size bytes : Nat) (ht : P.underlying t = some (.slice e)) (hi : P.info? e = some i) (hz : i.zero = some z)
    (hsize : i.size = size) (hby : i.bytes = bytes) (hzs : z.cells.size = size) (hsz : 0 < size) (ao : Option Addr) (n cap : Nat) (xs : List Value) (hs : a.eval s = .slice ao n cap) (hown : w.ownsRow 0 e size (.slice ao n cap) n xs)
    (ad : Addr) (m c : Nat) (news : List Value) (hx : a.eval x = .slice (some ad) m c) (hl : news.length = m * size) (hnews : ∀ j u, news[j]? = some u → w.cell? (ad.add j) = some u) (h1 : ∀ u ∈ news, u.oneCell' = true)
    (h63 : n + m ≤ maxLen) (hbytes : (n + m) * bytes ≤ 140737488355328) (hm : 0 < m)
    (h : ∀ v' w', w'.ownsRow 0 e size v' (n + m) (xs ++ news) → w.grownBy w' (Value.slice ao n cap).ownBlock → Moved w.heap.size (.slice ao n cap) v' → K (a.put o.dst v') w') :
    if Region.wanted o (yielded ops a.tmps) = true then Oper.wp P o a w K Q else E := by
  have hw : Region.wanted o (yielded ops a.tmps) = true := by simp [Region.wanted, hgd]
  rw [if_pos hw]
  exact wp_append_at w s x t ho e i z size bytes ht hi hz hsize hby hzs hsz ao n cap xs hs hown ad m c news hx hl hnews h1 h63 hbytes hm h
theorem wpList_append_at {P : Program} {w : World} {ops : Array Oper} {rest : List Oper} {o : Oper} {a : Act} {Q : Exit → Act → World → Prop} (hgd : o.guard = none) (s x : Operand) (t : TypeId)
    (ho : o.op = .call { callee := .builtin .append, args := #[s, x], argTypes := #[t, t] })
    (e : TypeId) (i : TypeInfo) (z : Value) (size bytes : Nat) (ht : P.underlying t = some (.slice e)) (hi : P.info? e = some i) (hz : i.zero = some z)
    (hsize : i.size = size) (hby : i.bytes = bytes) (hzs : z.cells.size = size) (hsz : 0 < size) (ao : Option Addr) (n cap : Nat) (xs : List Value) (hs : a.eval s = .slice ao n cap) (hown : w.ownsRow 0 e size (.slice ao n cap) n xs)
    (ad : Addr) (m c : Nat) (news : List Value) (hx : a.eval x = .slice (some ad) m c) (hl : news.length = m * size) (hnews : ∀ j u, news[j]? = some u → w.cell? (ad.add j) = some u) (h1 : ∀ u ∈ news, u.oneCell' = true)
    (h63 : n + m ≤ maxLen) (hbytes : (n + m) * bytes ≤ 140737488355328) (hm : 0 < m)
    (h : ∀ v' w', w'.ownsRow 0 e size v' (n + m) (xs ++ news) → w.grownBy w' (Value.slice ao n cap).ownBlock → Moved w.heap.size (.slice ao n cap) v' → wpList P ops Q rest (a.put o.dst v') w') : wpList P ops Q (o :: rest) a w :=
  wpList_plain hgd fun _ hK => wp_append_at w s x t ho e i z size bytes ht hi hz hsize hby hzs hsz ao n cap xs hs hown ad m c news hx hl hnews h1 h63 hbytes hm fun v' w' h2 h3 h4 => hK _ _ (h v' w' h2 h3 h4)
set_option maxRecDepth 100000 in
set_option maxHeartbeats 4000000 in
theorem tellM (eb tb kind t : Nat) (x : Int) (ad : Option Addr) (n cap : Nat) (ev : List Evt) (E Tk : Nat → Value) (w : World) (hE : Full w eb 144 44 44 E) (hE42 : E 43 = .slice ad n cap) (hT : Full w tb 160 7 7 Tk) (hT0 : Tk 0 = .int .i64 (t : Int))
    (hown : w.ownsRow 0 48 3 (.slice ad n cap) n (evT ev)) (hn : n ≤ 100000) :
    Calls Tryz.prog 173 #[P0 eb, .int .i64 kind, P0 tb, .int .i64 x] w fun e w' => e = .returned (.tuple #[]) ∧ ∃ g c, w'.ownsRow 0 48 3 (.slice (some ⟨g, 0, none⟩) (n + 1) c) (n + 1) (evT (ev ++ [(kind, t, x)])) ∧ Full w' eb 144 44 44 (upd E 43 (.slice (some ⟨g, 0, none⟩) (n + 1) c)) ∧ Only (fun k => k = eb ∨ (Value.slice ad n cap).ownBlock = some k) w w' ∧ ((Value.slice ad n cap).ownBlock = some g ∨ w.heap.size ≤ g) := by
  obtain ⟨i0, hi, hz0, hz1, hz2⟩ := info_parts Tryz.info48
  obtain ⟨c42, z42⟩ := hE.cells 43 (by omega)
  have c0 := hT.cell 0 (by omega)
  rw [hE42] at c42
  rw [hT0] at c0
  have le := hE.lt
  have lt := hT.lt
  have HE : Hid (Full w eb 144 44 44 E) := hE
  have HO : Hid (w.ownsRow 0 48 3 (.slice ad n cap) n (evT ev)) := hown
  have hk : ∀ k, (Value.slice ad n cap).ownBlock = some k → k ≠ eb ∧ k < w.heap.size := fun k hk => ⟨own_ne hown hE (by decide) k hk, (own_ty hown k hk).2.1⟩
  have HK := hid hk
  clear hE hT hown hE42 hT0 hk
  have hX : evT (ev ++ [(kind, t, x)]) = evT ev ++ [.int .i64 (kind : Int), .int .i64 (t : Int), .int .i64 x] := by rw [evT_app]; rfl
  rw [hX]
  clear hX
  generalize evT ev = L at *
  go_enter Tryz.func173, Tryz.ntmps173
  go_wp2_with fail
  go_region_law (refine step_append_at _ rfl (.tmp 12) (.tmp 20) 45 rfl 48 i0 _ 3 24 Tryz.underlying45 hi hz0 hz1 hz2 rfl (by decide) ad n cap L (by first | rfl | simp [Act.eval, Act.put]) (own_of HO.out (fun k h => Below.heap_alloc _ _ _ (HK.out k h).2)) ⟨w.heap.size, 0, none⟩ 1 1 [.int .i64 kind, .int .i64 t, .int .i64 x] (by first | rfl | simp [Act.eval, Act.put]) rfl (by intro j u hj; match j, hj with | 0, hj => (simp at hj; subst hj; simp [Addr.add, go_sem]) | 1, hj => (simp at hj; subst hj; simp [Addr.add, go_sem]) | 2, hj => (simp at hj; subst hj; simp [Addr.add, go_sem])) (by simp [Value.oneCell']) (by unfold maxLen; omega) (by omega) (by decide) ?_; intro v' w6 ho hg hmv; obtain ⟨g, c, rfl⟩ := row_form ho (by omega); have HMV : Hid ((Value.slice ad n cap).ownBlock = some g ∨ w.heap.size ≤ g) := (by rcases hmv with h | ⟨g', h, hl⟩; exact Or.inl h.symm; exact Or.inr (by have e : g = g' := (by injection h); simp at hl; omega)); clear hmv; have HO6 : Hid (w6.ownsRow 0 48 3 (.slice (some ⟨g, 0, none⟩) (n + 1) c) (n + 1) (L ++ [.int .i64 kind, .int .i64 t, .int .i64 x])) := ho; have hz6 := hg.size; have HE6 : Hid (Full w6 eb 144 44 44 E) := (HE.out.block (Below.heap_alloc _ _ _ le)).block (hg.block eb (by simp; omega) (fun h => (HK.out eb h.symm).1 rfl)); have KO6 : Hid (Only (fun k => k = eb ∨ (Value.slice ad n cap).ownBlock = some k) w w6) := Only.trans (S1 := fun k => (Value.slice ad n cap).ownBlock = some k) (only_alloc (only_refl _ w) _) ⟨hg.os, hg.tape, hg.output, hg.size, fun k hk hn => hg.block k hk (fun e => hn e.symm)⟩ (fun k h _ => Or.inr h); obtain ⟨d42, e42⟩ := HE6.out.cells 43 (by omega); have le6 := HE6.out.lt; clear ho hg)
  all_goals
    generalize E 43 = y42 at d42
    go_wp2_with fail
    go_end0
    refine ⟨rfl, g, c, own_of HO6.out (fun k h => ?_), HE6.out.upd 43 _, only_setCell KO6.out (Or.inl (Or.inl rfl)) _, HMV.out⟩
    exact Below.heap_setCell _ _ _ _ (own_ne HO6.out HE6.out (by decide) k h)
end Go.Proofs.YtnjiinbhbjpfkaaGreatDoor
