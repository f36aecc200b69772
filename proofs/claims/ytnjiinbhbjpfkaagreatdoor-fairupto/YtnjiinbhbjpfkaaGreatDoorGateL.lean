/-
  A new task is made: begin, over contracts for enter and join.
-/
import Derived.Test.YtnjiinbhbjpfkaaGreatDoorGateK
namespace Go.Proofs.YtnjiinbhbjpfkaaGreatDoor
open Go.RowKit
def tskB (n : Int) : Obj := .cells #[.int .i64 n, .slice none 0 0, .bool false, .pointer none, .nilFunc, .int .i64 0, .slice none 0 0] 160 (0, 0)
structure BegA (w w6 : World) (eb tb xe xt no nl : Nat) (vo vl : Value) (ov : List B.V) (lv : List Value) (E : Nat → Value) (a30 a29 : Option Addr) (c30 c29 : Nat) : Prop where
  e : Full w6 eb 144 44 44 (upd (upd E 30 (.slice a30 (no + 1) c30)) 29 (.slice a29 (nl + 1) c29))
  o : w6.ownsRow 0 149 2 (.slice a30 (no + 1) c30) (no + 1) (valL ov ++ [.int .i64 0, .int .i64 0])
  o2 : Moved w.heap.size vo (.slice a30 (no + 1) c30)
  l : w6.ownsRow 0 155 1 (.slice a29 (nl + 1) c29) (nl + 1) (lv ++ [P0 tb])
  l2 : Moved w.heap.size vl (.slice a29 (nl + 1) c29)
  l3 : ∀ k, (Value.slice a29 (nl + 1) c29).ownBlock = some k → k ≠ xt
  t : w6.heap[tb]? = some (tskB ((no : Int) + 1))
  x : w6.heap[xt]? = some (.cells #[P0 tb] 155 (0, 0))
  y : w6.heap[xe]? = some (.cells #[P0 eb] 95 (0, 0))
  n : w.heap.size ≤ tb ∧ w.heap.size ≤ xe ∧ w.heap.size ≤ xt
  s : Only (fun k => k = eb ∨ vo.ownBlock = some k ∨ vl.ownBlock = some k) w w6
theorem moved_le {a b : Nat} {v v' : Value} (h : Moved b v v') (hab : a ≤ b) : Moved a v v' := h.imp id (fun ⟨g, h1, h2⟩ => ⟨g, h1, by omega⟩)
set_option maxRecDepth 100000 in
set_option maxHeartbeats 4000000 in
theorem beginL (eb f no nl co cl num : Nat) (ao al : Option Addr) (u v : B.V) (ov : List B.V) (lv : List Value) (E : Nat → Value) (S : Nat → Nat → World → Prop) (R : World → Prop) (w : World) (hE : Full w eb 144 44 44 E) (h30 : E 30 = .slice ao no co) (h29 : E 29 = .slice al nl cl)
    (ho : w.ownsRow 0 149 2 (.slice ao no co) no (valL ov)) (hl : w.ownsRow 0 155 1 (.slice al nl cl) nl lv) (hno : no ≤ 900000000) (hnl : nl ≤ 900000000)
    (HE : ∀ w6 tb xe xt a30 a29 c30 c29, BegA w w6 eb tb xe xt no nl (.slice ao no co) (.slice al nl cl) ov lv E a30 a29 c30 c29 → Calls Tryz.prog 119 #[P0 eb, P0 tb, .int .i64 f, vA u, vA v, Fv 120 #[P0 xe, P0 xt]] w6 fun e w7 => e = .returned (.tuple #[]) ∧ S tb xt w7 ∧ w7.heap[xt]? = some (.cells #[P0 tb] 155 (0, 0)) ∧ w7.heap[xe]? = some (.cells #[P0 eb] 95 (0, 0)) ∧ eb < w7.heap.size)
    (HJ : ∀ tb xt w7 w8, S tb xt w7 → w7.grownBy w8 none → Calls Tryz.prog 110 #[Pt eb 32, P0 tb] w8 fun e w9 => e = .returned (.tuple #[]) ∧ R w9 ∧ w9.cell? ⟨tb, 0, none⟩ = some (.int .i64 num) ∧ w9.heap[xt]? = some (.cells #[P0 tb] 155 (0, 0))) :
    Calls Tryz.prog 60 #[P0 eb, .int .i64 f, vA u, vA v] w fun e w' => e = .returned (.int .i64 num) ∧ R w' := by
  have le := hE.lt
  have KE := hid hE
  have HF := hid (And.intro h30 h29)
  have HO := hid ho
  have HL := hid hl
  have HHE := hid HE
  have HHJ := hid HJ
  have hko : ∀ k, (Value.slice ao no co).ownBlock = some k → k ≠ eb ∧ k < w.heap.size := fun k hk => ⟨own_ne ho hE (by decide) k hk, (own_ty ho k hk).2.1⟩
  have hkl : ∀ k, (Value.slice al nl cl).ownBlock = some k → k ≠ eb ∧ k < w.heap.size := fun k hk => ⟨own_ne hl hE (by decide) k hk, (own_ty hl k hk).2.1⟩
  have HKO := hid hko
  have HKL := hid hkl
  have HOL : Hid (∀ k, (Value.slice ao no co).ownBlock = some k → (Value.slice al nl cl).ownBlock ≠ some k) := fun k hk hk' => by
    obtain ⟨_, _, c1, e1⟩ := own_ty ho k hk
    obtain ⟨_, _, c2, e2⟩ := own_ty hl k hk'
    rw [e1] at e2; injection e2 with e2; injection e2 with _ e2 _; exact absurd e2 (by decide)
  clear hE h30 h29 ho hl HE HJ hko hkl
  obtain ⟨i0, hi, hz0, hz1, hz2⟩ := info_parts Tryz.info149
  go_enter Tryz.func60, Tryz.ntmps60
  go_wp2_with fail
  generalize hW : ((w.alloc (.cells #[P0 eb] 95)).alloc (.cells #[.int .i64 (u.1 : Int), .int .i64 u.2] 149)).alloc (.cells #[.int .i64 (v.1 : Int), .int .i64 v.2] 149) = w1
  have hz1' : w1.heap.size = w.heap.size + 1 + 1 + 1 := by rw [← hW]; simp
  have KG1 : Hid (w.grownBy w1 none) := by rw [← hW]; repeat (first | exact grown_refl _ _ | refine grown_alloc ?_ _)
  have x0 : w1.heap[w.heap.size]? = some (.cells #[P0 eb] 95 (0, 0)) := by rw [← hW, Below.heap_alloc _ _ _ (by simp; omega), Below.heap_alloc _ _ _ (by simp)]; exact heap_alloc_new _ _
  have x1 : w1.heap[w.heap.size + 1]? = some (.cells #[.int .i64 (u.1 : Int), .int .i64 u.2] 149 (0, 0)) := by
    rw [← hW, Below.heap_alloc _ _ _ (by simp)]
    have := heap_alloc_new (w.alloc (.cells #[P0 eb] 95)) (.cells #[.int .i64 (u.1 : Int), .int .i64 u.2] 149)
    simpa using this
  have x2 : w1.heap[w.heap.size + 1 + 1]? = some (.cells #[.int .i64 (v.1 : Int), .int .i64 v.2] 149 (0, 0)) := by
    rw [← hW]
    have := heap_alloc_new ((w.alloc (.cells #[P0 eb] 95)).alloc (.cells #[.int .i64 (u.1 : Int), .int .i64 u.2] 149)) (.cells #[.int .i64 (v.1 : Int), .int .i64 v.2] 149)
    simpa using this
  clear hW
  have HX := hid (And.intro x0 (And.intro x1 x2))
  have b0 : w1.cell? ⟨w.heap.size, 0, none⟩ = some (P0 eb) := by simp [World.cell?, x0]
  have KE1 := hid (KE.out.block (KG1.out.block eb le (by intro e; cases e)))
  have HO1 := hid (own_of HO.out (fun k h => KG1.out.block k (HKO.out k h).2 (by intro e; cases e)))
  obtain ⟨c29, z29⟩ := KE1.out.cells 30 (by omega)
  rw [HF.out.1] at c29
  have le1 := KE1.out.lt
  have lb1 : w.heap.size < w1.heap.size := by omega
  have HZ1 := hid hz1'
  clear hz1' x0 x1 x2
  go_cut [] from 10 to 19 (fun wx => ∃ (ob : Option Addr) (co' : Nat) (w2 : World), wx = w2.setCell ⟨eb, 30, none⟩ (.slice ob (no + 1) co') ∧ Hid (w2.ownsRow 0 149 2 (.slice ob (no + 1) co') (no + 1) (valL ov ++ [.int .i64 0, .int .i64 0])) ∧ Hid (w1.grownBy w2 (Value.slice ao no co).ownBlock) ∧ Hid (Moved w1.heap.size (.slice ao no co) (.slice ob (no + 1) co')))
  case first =>
    go_region_law (first | (refine step_append_at _ rfl (.tmp 14) (.tmp 16) 137 rfl 149 i0 _ 2 16 Tryz.underlying137 hi hz0 hz1 hz2 rfl (by decide) ao no co (valL ov) (by first | rfl | simp [Act.eval, Act.put]) (own_of HO1.out (fun k h => (Below.heap_alloc _ _ _ (by have h1 := (HKO.out k h).2; have h2 := HG3.out.size; have h3 := KG1.out.size; omega)).trans (HG3.out.block k (by have h1 := (HKO.out k h).2; have h3 := KG1.out.size; omega) (by intro e; cases e)))) ⟨w3.heap.size, 0, none⟩ 1 1 [.int .i64 0, .int .i64 0] (by first | rfl | simp [Act.eval, Act.put]) rfl (by intro j u hj; match j, hj with | 0, hj => (simp at hj; subst hj; simp [Addr.add, go_sem]) | 1, hj => (simp at hj; subst hj; simp [Addr.add, go_sem])) (by simp [Value.oneCell']) (by unfold maxLen; omega) (by omega) (by decide) ?_; intro v' w6 ho hg hmv; obtain ⟨ob, co', rfl⟩ := row_form ho (by omega); have HO6 := hid ho; have HMV : Hid (Moved w1.heap.size (.slice ao no co) (.slice (some ⟨ob, 0, none⟩) (no + 1) co')) := moved_le hmv (by have h1 := HG3.out.size; simp; omega); have HG6 : Hid (w1.grownBy w6 (Value.slice ao no co).ownBlock) := ⟨hg.os.trans HG3.out.os, hg.tape.trans HG3.out.tape, hg.output.trans HG3.out.output, by (have h1 := hg.size; have h2 := HG3.out.size; simp at h1; omega), fun x hx hn => (hg.block x (by (have := HG3.out.size; simp; omega)) hn).trans ((Below.heap_alloc _ _ _ (by have := HG3.out.size; omega)).trans (HG3.out.block x hx (by intro e; cases e)))⟩; have KE6 := hid (KE1.out.block (HG6.out.block eb le1 (fun e => (HKO.out eb e.symm).1 rfl))); obtain ⟨d29, e29⟩ := KE6.out.cells 30 (by omega); have le6 := KE6.out.lt; have b0' := (World.cell?_of_block (a := ⟨w.heap.size, 0, none⟩) (HG6.out.block w.heap.size lb1 (fun e => by have := (HKO.out _ e.symm).2; omega))).trans b0; have lb6 : w.heap.size < w6.heap.size := (by have := HG6.out.size; omega); clear ho hg hmv) | (go_simp; go_at_call 61; refine (number_any 0 w1.drew).mono ?_; rintro e w3 ⟨rfl, hw3⟩; have HG3 : Hid (w1.grownBy w3 none) := (by subst hw3; exact grown_alloc (grown_drew (grown_refl _ _)) _); obtain ⟨c29', _⟩ := grown_cell HG3.out (a := ⟨eb, 30, none⟩) le1; rw [c29] at c29'; obtain ⟨b0', _⟩ := grown_cell HG3.out (a := ⟨w.heap.size, 0, none⟩) lb1; rw [b0] at b0'; have le3 : eb < w3.heap.size := (by have := HG3.out.size; omega); have lb3 : w.heap.size < w3.heap.size := (by have := HG3.out.size; omega); clear hw3; simp only []))
    all_goals
      generalize E 30 = y29 at d29
      go_wp2_with fail
      go_meet
      case rel => exact ⟨_, co', w6, rfl, HO6, HG6, HMV⟩
  case rest =>
    obtain ⟨ob, co', w2, rfl, HO2, HG2, HM2⟩ := hcut
    have KE2 := hid (KE1.out.block (HG2.out.block eb le1 (fun e => (HKO.out eb e.symm).1 rfl)))
    have hz2' := HG2.out.size
    have hzw := KG1.out.size
    have hbk2 : ∀ k, k < w1.heap.size → (Value.slice ao no co).ownBlock ≠ some k → w2.heap[k]? = w1.heap[k]? := fun k hk hn => HG2.out.block k hk (fun e => hn e.symm)
    have KO2 : Hid (Only (fun k => k = eb ∨ (Value.slice ao no co).ownBlock = some k ∨ (Value.slice al nl cl).ownBlock = some k) w w2) := (only_none KG1.out).trans (S1 := fun k => (Value.slice ao no co).ownBlock = some k) ⟨HG2.out.os, HG2.out.tape, HG2.out.output, HG2.out.size, fun k hk hn => hbk2 k hk hn⟩ (fun k h _ => Or.inr (Or.inl h))
    have HL2 : Hid (w2.ownsRow 0 155 1 (.slice al nl cl) nl lv) := own_of HL.out (fun k h => (hbk2 k (by have := (HKL.out k h).2; omega) (fun e => HOL.out k e h)).trans (KG1.out.block k (HKL.out k h).2 (by intro e; cases e)))
    have hnb : ∀ k, w.heap.size ≤ k → (Value.slice ao no co).ownBlock ≠ some k := fun k hk e => by have := (HKO.out k e).2; omega
    generalize hw3 : w2.setCell ⟨eb, 30, none⟩ (.slice ob (no + 1) co') = w3 at *
    have hz3 : w3.heap.size = w2.heap.size := by rw [← hw3]; simp [World.setCell]
    have hb3 : ∀ k, k ≠ eb → w3.heap[k]? = w2.heap[k]? := fun k hk => by rw [← hw3]; exact Below.heap_setCell _ _ _ _ hk
    have KE3 : Hid (Full w3 eb 144 44 44 (upd E 30 (.slice ob (no + 1) co'))) := by show Full _ _ _ _ _ _; rw [← hw3]; exact KE2.out.upd 30 _
    have KO3 : Hid (Only (fun k => k = eb ∨ (Value.slice ao no co).ownBlock = some k ∨ (Value.slice al nl cl).ownBlock = some k) w w3) := by show Only _ _ _; rw [← hw3]; exact only_setCell KO2.out (Or.inl (Or.inl rfl)) _
    have HO3 := hid (own_of HO2.out (fun k h => hb3 k (own_ne HO2.out KE2.out (by decide) k h)))
    have HL3 := hid (own_of HL2.out (fun k h => hb3 k (own_ne HL2.out KE2.out (by decide) k h)))
    have HM3 : Hid (Moved w.heap.size (.slice ao no co) (.slice ob (no + 1) co')) := moved_le HM2.out hzw
    have hze := HZ1.out
    have y0 := ((hb3 w.heap.size (by omega)).trans (hbk2 w.heap.size (by omega) (hnb _ (Nat.le_refl _)))).trans HX.out.1
    have y1 := ((hb3 (w.heap.size + 1) (by omega)).trans (hbk2 (w.heap.size + 1) (by omega) (hnb _ (by omega)))).trans HX.out.2.1
    have y2 := ((hb3 (w.heap.size + 1 + 1) (by omega)).trans (hbk2 (w.heap.size + 1 + 1) (by omega) (hnb _ (by omega)))).trans HX.out.2.2
    have HY := hid (And.intro y0 (And.intro y1 y2))
    have b0 : w3.cell? ⟨w.heap.size, 0, none⟩ = some (P0 eb) := by simp [World.cell?, y0]
    have lb3 := heap_lt y0
    have le3 := KE3.out.lt
    have c30 := KE3.out.cell 30 (by omega)
    rw [upd_at] at c30
    have hle3 : w.heap.size + 1 + 1 + 1 ≤ w3.heap.size := by omega
    have hwn : wrap64 ((no : Int) + 1) = (no : Int) + 1 := IntWalk.wrap64_in _ ⟨by omega, by omega⟩
    clear hw3 hb3 y0 y1 y2 c29 z29 hz3 hz2' KE1 KE2 HG2 HO2 HX lb1 le1 KG1 HZ1 hbk2 HL2 hnb HM2 hze KO2 HO1 hzw
    go_wp2_with fail
    generalize hw4 : (w3.alloc (.cells #[.int .i64 ((no : Int) + 1), .slice none 0 0, .bool false, .pointer none, .nilFunc, .int .i64 0, .slice none 0 0] 160)).alloc (.cells #[.pointer (some ⟨w3.heap.size, 0, none⟩)] 155) = w4
    have KG34 : Hid (w3.grownBy w4 none) := by rw [← hw4]; exact grown_alloc (World.grownBy_alloc _ _ _) _
    have ht4 : w4.heap[w3.heap.size]? = some (tskB ((no : Int) + 1)) := by rw [← hw4, Below.heap_alloc _ _ _ (by simp)]; exact heap_alloc_new _ _
    have hx4 : w4.heap[w3.heap.size + 1]? = some (.cells #[.pointer (some ⟨w3.heap.size, 0, none⟩)] 155 (0, 0)) := by
      rw [← hw4]
      have := heap_alloc_new (w3.alloc (.cells #[.int .i64 ((no : Int) + 1), .slice none 0 0, .bool false, .pointer none, .nilFunc, .int .i64 0, .slice none 0 0] 160)) (.cells #[.pointer (some ⟨w3.heap.size, 0, none⟩)] 155)
      simpa using this
    have hz4 : w4.heap.size = w3.heap.size + 1 + 1 := by rw [← hw4]; simp
    clear hw4
    generalize htb : w3.heap.size = tb at *
    have HX4 := hid (And.intro ht4 hx4)
    have KE4 := hid (KE3.out.block (KG34.out.block eb (by omega) (by intro e; cases e)))
    have HO4 := hid (own_of HO3.out (fun k h => KG34.out.block k (own_ty HO3.out k h).2.1 (by intro e; cases e)))
    have HL4 := hid (own_of HL3.out (fun k h => KG34.out.block k (own_ty HL3.out k h).2.1 (by intro e; cases e)))
    have KO4 := hid (KO3.out.then0 KG34.out)
    have HY4 := hid (And.intro (grown_out KG34.out HY.out.1) (And.intro (grown_out KG34.out HY.out.2.1) (grown_out KG34.out HY.out.2.2)))
    have b04 : w4.cell? ⟨w.heap.size, 0, none⟩ = some (P0 eb) := by simp [World.cell?, HY4.out.1]
    have bt4 : w4.cell? ⟨tb + 1, 0, none⟩ = some (P0 tb) := by simp [World.cell?, hx4]
    have lw4 := heap_lt HY4.out.1
    have lx4 := heap_lt hx4
    obtain ⟨c28, z28⟩ := KE4.out.cells 29 (by omega)
    rw [upd_off _ _ _ _ (by omega), HF.out.2] at c28
    have le4 := KE4.out.lt
    have HZ4 := hid (And.intro hz4 (And.intro htb hle3))
    clear ht4 hx4 b0 lb3 le3 c30 KG34 HO3 KE3 HY hz4 htb hi hz0 hz1 hz2 i0 HL3 KO3 hle3
    obtain ⟨j0, hj, hy0, hy1, hy2⟩ := info_parts Tryz.info155
    have HKL4 : Hid (∀ k, (Value.slice al nl cl).ownBlock = some k → k ≠ eb ∧ k < w.heap.size) := HKL.out
    go_cut [] from 27 to 36 (fun wx => ∃ (lb : Option Addr) (cl' : Nat) (w5 : World), wx = w5.setCell ⟨eb, 29, none⟩ (.slice lb (nl + 1) cl') ∧ Hid (w5.ownsRow 0 155 1 (.slice lb (nl + 1) cl') (nl + 1) (lv ++ [P0 tb])) ∧ Hid (w4.grownBy w5 (Value.slice al nl cl).ownBlock) ∧ Hid (Moved w4.heap.size (.slice al nl cl) (.slice lb (nl + 1) cl')))
    case first =>
      go_region_law (refine step_append_at _ rfl (.tmp 31) (.tmp 33) 136 rfl 155 j0 _ 1 8 Tryz.underlying136 hj hy0 hy1 hy2 rfl (by decide) al nl cl lv (by first | rfl | simp [Act.eval, Act.put]) (own_of HL4.out (fun k h => Below.heap_alloc _ _ _ (by have h1 := (own_ty HL4.out k h).2.1; omega))) ⟨w4.heap.size, 0, none⟩ 1 1 [P0 tb] (by first | rfl | simp [Act.eval, Act.put]) rfl (by intro j u hj; match j, hj with | 0, hj => (simp at hj; subst hj; simp [Addr.add, go_sem])) (by simp [Value.oneCell']) (by unfold maxLen; omega) (by omega) (by decide) ?_; intro v' w6 ho hg hmv; obtain ⟨lb, cl', rfl⟩ := row_form ho (by omega); have HO6 := hid ho; have HMV : Hid (Moved w4.heap.size (.slice al nl cl) (.slice (some ⟨lb, 0, none⟩) (nl + 1) cl')) := moved_le hmv (by simp); have HG6 : Hid (w4.grownBy w6 (Value.slice al nl cl).ownBlock) := ⟨hg.os, hg.tape, hg.output, by (have h1 := hg.size; simp at h1; omega), fun x hx hn => (hg.block x (by simp; omega) hn).trans (Below.heap_alloc _ _ _ hx)⟩; have KE6 := hid (KE4.out.block (HG6.out.block eb le4 (fun e => (HKL4.out eb e.symm).1 rfl))); obtain ⟨d28, e28⟩ := KE6.out.cells 29 (by omega); have le6 := KE6.out.lt; have b06 := (World.cell?_of_block (a := ⟨w.heap.size, 0, none⟩) (HG6.out.block w.heap.size lw4 (fun e => by have := (HKL4.out _ e.symm).2; omega))).trans b04; have lw6 : w.heap.size < w6.heap.size := (by have := HG6.out.size; omega); clear ho hg hmv)
      all_goals
        generalize (upd E 30 (.slice ob (no + 1) co')) 29 = y28 at d28
        go_wp2_with fail
        go_meet
        case rel => exact ⟨_, cl', w6, rfl, HO6, HG6, HMV⟩
    case rest =>
      obtain ⟨lb, cl', w5, rfl, HO5, HG5, HM5⟩ := hcut
      have KE5 := hid (KE4.out.block (HG5.out.block eb le4 (fun e => (HKL4.out eb e.symm).1 rfl)))
      have hz5 := HG5.out.size
      have hz4' := HZ4.out
      generalize hw6 : w5.setCell ⟨eb, 29, none⟩ (.slice lb (nl + 1) cl') = w6 at *
      have hb6 : ∀ k, k ≠ eb → w6.heap[k]? = w5.heap[k]? := fun k hk => by rw [← hw6]; exact Below.heap_setCell _ _ _ _ hk
      have hk6 : ∀ {k : Nat} {o : Obj}, w4.heap[k]? = some o → k ≠ eb → (Value.slice al nl cl).ownBlock ≠ some k → w6.heap[k]? = some o := fun hk h1 h2 => ((hb6 _ h1).trans (HG5.out.block _ (heap_lt hk) (fun e => h2 e.symm))).trans hk
      have hnl' : ∀ k, w.heap.size ≤ k → (Value.slice al nl cl).ownBlock ≠ some k := fun k hk e => by have := (HKL4.out k e).2; omega
      have HB : Hid (BegA w w6 eb tb w.heap.size (tb + 1) no nl (.slice ao no co) (.slice al nl cl) ov lv E ob lb co' cl') := by
        refine ⟨?_, ?_, HM3.out, ?_, moved_le HM5.out (by omega), ?_, ?_, ?_, ?_, ⟨by omega, Nat.le_refl _, by omega⟩, ?_⟩
        · rw [← hw6]; exact KE5.out.upd 29 _
        · refine own_of HO4.out (fun k h => ?_)
          obtain ⟨_, l4, cur, hc⟩ := own_ty HO4.out k h
          rw [hc]
          refine hk6 hc (own_ne HO4.out KE4.out (by decide) k h) (fun e => ?_)
          obtain ⟨_, _, c2, e2⟩ := own_ty HL4.out k e
          rw [hc] at e2; injection e2 with e2; injection e2 with _ e2 _; exact absurd e2 (by decide)
        · exact own_of HO5.out (fun k h => hb6 k (own_ne HO5.out KE5.out (by decide) k h))
        · intro k hk
          rcases HM5.out with e | ⟨g', e, hg'⟩
          · rw [hk] at e
            have := (HKL4.out k e.symm).2
            omega
          · rw [hk] at e
            injection e with e
            omega
        · exact hk6 HX4.out.1 (by omega) (hnl' _ (by omega))
        · exact hk6 HX4.out.2 (by omega) (hnl' _ (by omega))
        · exact hk6 HY4.out.1 (by omega) (hnl' _ (Nat.le_refl _))
        · rw [← hw6]
          refine only_setCell (KO4.out.trans (S1 := fun k => (Value.slice al nl cl).ownBlock = some k) ⟨HG5.out.os, HG5.out.tape, HG5.out.output, HG5.out.size, fun k hk hn => HG5.out.block k hk (fun e => hn e.symm)⟩ (fun k h _ => Or.inr (Or.inr h))) (Or.inl (Or.inl rfl)) _
      have q1 := hk6 HY4.out.2.1 (by omega) (hnl' _ (by omega))
      have q2 := hk6 HY4.out.2.2 (by omega) (hnl' _ (by omega))
      have p0 : w6.cell? ⟨w.heap.size, 0, none⟩ = some (P0 eb) := by have := HB.out.y; simp [World.cell?, this]
      have p1 : w6.cell? ⟨tb + 1, 0, none⟩ = some (P0 tb) := by have := HB.out.x; simp [World.cell?, this]
      have p2 : w6.cell? ⟨w.heap.size + 1, 0, none⟩ = some (.int .i64 (u.1 : Int)) := by simp [World.cell?, q1]
      have p3 : w6.cell? ⟨w.heap.size + 1, 1, none⟩ = some (.int .i64 u.2) := by simp [World.cell?, q1]
      have p4 : w6.cell? ⟨w.heap.size + 1 + 1, 0, none⟩ = some (.int .i64 (v.1 : Int)) := by simp [World.cell?, q2]
      have p5 : w6.cell? ⟨w.heap.size + 1 + 1, 1, none⟩ = some (.int .i64 v.2) := by simp [World.cell?, q2]
      have lp0 := heap_lt HB.out.y
      have lp1 := heap_lt HB.out.x
      have lp2 := heap_lt q1
      have lp4 := heap_lt q2
      have le6 := HB.out.e.lt
      clear hw6 hb6 hk6 b04 bt4 lw4 lx4 c28 z28 le4 HO4 HO5 KE4 KE5 HG5 HX4 HY4 hj hy0 hy1 hy2 j0 HL4 KO4 hz4' HM5 HM3 hnl' q1 q2 hz5
      go_wp2_with fail
      refine (HHE.out w6 tb w.heap.size (tb + 1) ob lb co' cl' HB.out).mono ?_
      rintro e w7 ⟨rfl, hS7, hx7, hy7, le7⟩
      have q0 : w7.cell? ⟨w.heap.size, 0, none⟩ = some (P0 eb) := by simp [World.cell?, hy7]
      have q1 : w7.cell? ⟨tb + 1, 0, none⟩ = some (P0 tb) := by simp [World.cell?, hx7]
      have lq0 := heap_lt hy7
      have lq1 := heap_lt hx7
      have HS7 := hid hS7
      have HX7 := hid hx7
      clear hS7 hx7 hy7 p0 p1 p2 p3 p4 p5 lp0 lp1 lp2 lp4
      go_wp2_with fail
      go_region_with (go_at_call 110; refine (HHJ.out tb (tb + 1) w7 w7.drew HS7.out (grown_drew (grown_refl _ _))).mono ?_; rintro e w8 ⟨rfl, hR8, t0, hx8⟩; have HR8 := hid hR8; have r1 : w8.cell? ⟨tb + 1, 0, none⟩ = some (P0 tb) := (by simp [World.cell?, hx8]); have lr1 := heap_lt hx8; have lt8 := cell_lt t0; clear hR8 hx8)
      all_goals
        go_wp2_with fail
        go_ret
        exact ⟨rfl, HR8.out⟩
end Go.Proofs.YtnjiinbhbjpfkaaGreatDoor
namespace Go.Proofs.YtnjiinbhbjpfkaaGreatDoor.F
open Go.RowKit
def Pl.more (s : Pl) : Pl := { s.new with out := s.out ++ [(0, 0)], lv := s.lv ++ [s.nt + 1] }
def Geo.more (g : Geo) (t tb xe xt : Nat) (r7 r6 : Option Addr × Nat) : Geo := ((g.new t tb xe xt).at 7 0 r7).at 6 0 r6
theorem LW.mw {s : Pl} (h : LW s) (hlt : ∀ u, u ∈ s.lv → isT s u) : MW s := ⟨fun x y hl t ht => (h.b x y hl t ht).1, hlt, fun t ht x y hx => (h.a t ht x y hx).1⟩
theorem Rep.begin {p : Prm} {s : Pl} {g : Geo} {w w6 : World} {tb xe xt : Nat} {a30 a29 : Option Addr} {c30 c29 : Nat} (h : Rep p s g w) (hM : MW s) (ho : s.out.length = s.nt)
    (hA : BegA w w6 p.eb tb xe xt s.out.length s.lv.length (sl s g 7 0) (sl s g 6 0) s.out ((s.lv.map g.tb).map P0) (engE p s g) a30 a29 c30 c29) : Tr p s g w s.more (g.more (s.nt + 1) tb xe xt (a30, c30) (a29, c29)) w6 := by
  have hv6 : vld s 6 0 0 = true := vld_0 (by omega)
  have hv7 : vld s 7 0 0 = true := vld_0 (by omega)
  have isn : ∀ {t}, isT s t → t ≠ s.nt + 1 := fun h => by have := h.2; omega
  have htb : ∀ {t}, isT s t → (g.more (s.nt + 1) tb xe xt (a30, c30) (a29, c29)).tb t = g.tb t := fun h => (gnew_off (tb := tb) (xe := xe) (xt := xt) g (isn h)).1
  have htbn : (g.more (s.nt + 1) tb xe xt (a30, c30) (a29, c29)).tb (s.nt + 1) = tb := (gnew_at g (s.nt + 1) tb xe xt).1
  have hro6 : (g.more (s.nt + 1) tb xe xt (a30, c30) (a29, c29)).ro 6 0 = (a29, c29) := at_at _ _ _ _
  have hro7 : (g.more (s.nt + 1) tb xe xt (a30, c30) (a29, c29)).ro 7 0 = (a30, c30) := (at_off _ _ (by omega)).trans (at_at _ _ _ _)
  have hro : ∀ a b, ¬ (a = 6 ∧ b = 0) → ¬ (a = 7 ∧ b = 0) → (g.more (s.nt + 1) tb xe xt (a30, c30) (a29, c29)).ro a b = (g.new (s.nt + 1) tb xe xt).ro a b := fun a b h6 h7 => (at_off _ _ h6).trans (at_off _ _ h7)
  have hl6 : rlen s.more 6 0 = s.lv.length + 1 := by show (s.lv ++ [s.nt + 1]).length = _; rw [List.length_append]; rfl
  have hl7 : rlen s.more 7 0 = s.out.length + 1 := by show (s.out ++ [(0, 0)]).length = _; rw [List.length_append]; rfl
  have hrl : ∀ a b, a ≠ 6 → a ≠ 7 → rlen s.more a b = rlen s.new a b := fun a b h6 h7 => by unfold rlen; simp only [if_neg h6, if_neg h7]; rfl
  have hrc : ∀ a b, a ≠ 6 → a ≠ 7 → rcon s.more (g.more (s.nt + 1) tb xe xt (a30, c30) (a29, c29)) a b = rcon s.new (g.new (s.nt + 1) tb xe xt) a b := fun a b h6 h7 => by unfold rcon; simp only [if_neg h6, if_neg h7]; rfl
  have hsln : ∀ a b, a ≠ 6 → a ≠ 7 → sl s.more (g.more (s.nt + 1) tb xe xt (a30, c30) (a29, c29)) a b = sl s.new (g.new (s.nt + 1) tb xe xt) a b := fun a b h6 h7 => by
    unfold sl
    rw [hro a b (fun e => h6 e.1) (fun e => h7 e.1), hrl a b h6 h7]
  have hTs : ∀ t, tskE p s.more (g.more (s.nt + 1) tb xe xt (a30, c30) (a29, c29)) t = tskE p s.new (g.new (s.nt + 1) tb xe xt) t := fun t => by
    funext j
    unfold tskE
    rw [hsln 12 t (by omega) (by omega), hsln 5 t (by omega) (by omega)]
    rfl
  have hvm : ∀ a b c, vld s.more a b c = vld s.new a b c := fun a b c => rfl
  have hrow6 := h.row (x := 6) (y := 0) (by unfold rowx; omega) hv6
  have hrow7 := h.row (x := 7) (y := 0) (by unfold rowx; omega) hv7
  have hmv : ∀ {x : Nat} {v' : Value} {k : Nat}, Moved w.heap.size (sl s g x 0) v' → v'.ownBlock = some k → adB (g.ro x 0).1 = some k ∨ w.heap.size ≤ k := fun hm hk => by
    rcases hm with e | ⟨g', e, hg'⟩
    · rw [hk] at e
      unfold sl at e
      rw [own_adB] at e
      exact Or.inl e.symm
    · rw [hk] at e
      injection e with e
      exact Or.inr (by omega)
  have d1 : xe ≠ tb := cells_ne hA.y hA.t (by decide)
  have d2 : xt ≠ tb := cells_ne hA.x hA.t (by decide)
  have d3 : xt ≠ xe := cells_ne hA.x hA.y (by decide)
  have d6 : ∀ k, adB a29 = some k → k ≠ tb ∧ k ≠ xe ∧ k ≠ xt := fun k hk => by
    obtain ⟨_, _, cu, h1⟩ := own_ty hA.l k (by rw [own_adB]; exact hk)
    exact ⟨cells_ne h1 hA.t (by decide), cells_ne h1 hA.y (by decide), hA.l3 k (by rw [own_adB]; exact hk)⟩
  have d7 : ∀ k, adB a30 = some k → k ≠ tb ∧ k ≠ xe ∧ k ≠ xt ∧ adB a29 ≠ some k := fun k hk => by
    obtain ⟨_, _, cu, h1⟩ := own_ty hA.o k (by rw [own_adB]; exact hk)
    refine ⟨cells_ne h1 hA.t (by decide), cells_ne h1 hA.y (by decide), cells_ne h1 hA.x (by decide), fun e => ?_⟩
    obtain ⟨_, _, cu2, h2⟩ := own_ty hA.l k (by rw [own_adB]; exact e)
    exact cells_ne h1 h2 (by decide) rfl
  have hv5 : ∀ a, a = 5 ∨ a = 11 ∨ a = 12 ∨ a = 15 ∨ a = 16 → vld s.more a (s.nt + 1) 0 = true := fun a ha => vld_t ha ⟨by omega, Nat.le_refl _⟩
  have hn5 : ∀ a, a = 5 ∨ a = 12 → sl s.more (g.more (s.nt + 1) tb xe xt (a30, c30) (a29, c29)) a (s.nt + 1) = .slice none 0 0 ∧ rlen s.more a (s.nt + 1) = 0 ∧ rcon s.more (g.more (s.nt + 1) tb xe xt (a30, c30) (a29, c29)) a (s.nt + 1) = [] ∧ (g.more (s.nt + 1) tb xe xt (a30, c30) (a29, c29)).ro a (s.nt + 1) = (none, 0) := fun a ha => by
    have hro5 : (g.more (s.nt + 1) tb xe xt (a30, c30) (a29, c29)).ro a (s.nt + 1) = (none, 0) := (hro a _ (by omega) (by omega)).trans (gnew_ro1 g ha)
    have e1 : rlen s.more a (s.nt + 1) = 0 := by
      rcases ha with rfl | rfl
      · show (s.new.q 5 (s.nt + 1)).length = 0; rw [new_q5]; rfl
      · show (s.new.T (s.nt + 1)).fr.length = 0; rw [new_T1]; rfl
    refine ⟨?_, e1, ?_, hro5⟩
    · unfold sl; rw [hro5, e1]
    · rcases ha with rfl | rfl
      · show ((s.new.q 5 (s.nt + 1)).map _).map P0 = []; rw [new_q5]; rfl
      · rw [rcon_12]
        show ((List.range (s.new.T (s.nt + 1)).fr.length).map _).map P0 = []
        rw [new_T1]; rfl
  refine h.to (fun a b c => ((a = 0 ∨ a = 6 ∨ a = 7) ∧ b = 0 ∧ c = 0) ∨ ((a = 5 ∨ a = 11 ∨ a = 12 ∨ a = 15 ∨ a = 16) ∧ b = s.nt + 1 ∧ c = 0)) (fun k => if k = tb then (11, s.nt + 1, 0) else if k = xe then (15, s.nt + 1, 0) else if k = xt then (16, s.nt + 1, 0) else if adB a29 = some k then (6, 0, 0) else (7, 0, 0)) (hA.s.mono (fun k hk _ => ?_)) (fun a b c hC => ?_) (fun a b c hC => ?_) (fun a b c k hC hk => ?_) (Nat.le_succ _) (fun u hu => htb hu)
  · rcases hk with hk | hk | hk
    · exact ⟨0, 0, 0, Or.inl ⟨Or.inl rfl, rfl, rfl⟩, hk⟩
    · refine ⟨7, 0, 0, Or.inl ⟨Or.inr (Or.inr rfl), rfl, rfl⟩, ?_⟩
      rw [bs_row p g (by unfold rowx; omega) hv7]
      unfold sl at hk
      rw [own_adB] at hk; exact hk
    · refine ⟨6, 0, 0, Or.inl ⟨Or.inr (Or.inl rfl), rfl, rfl⟩, ?_⟩
      rw [bs_row p g (by unfold rowx; omega) hv6]
      unfold sl at hk
      rw [own_adB] at hk; exact hk
  · have hC2 : ¬ ((a = 5 ∨ a = 11 ∨ a = 12 ∨ a = 15 ∨ a = 16) ∧ b = s.nt + 1 ∧ c = 0) := fun e => hC (Or.inr e)
    rw [← ob_new (p := p) (g := g) (tb := tb) (xe := xe) (xt := xt) hM hC2]
    refine ob_eq (hvm a b c) (fun hV => obk_eq hV ?_ (fun _ => ⟨rfl, rfl, rfl⟩) (fun _ => ⟨rfl, hTs b⟩) (fun _ => ⟨rfl, rfl⟩) (fun _ => ⟨rfl, rfl⟩) (fun _ => rfl) (fun _ => ⟨rfl, rfl⟩) (fun _ => ⟨rfl, rfl⟩) ?_)
    · intro ea
      exact absurd (Or.inl ⟨Or.inl ea, vld_i0 hV (by omega)⟩) hC
    · intro ha
      have ec := vld_ir hV ha
      have h6 : a ≠ 6 := fun e => hC (Or.inl ⟨Or.inr (Or.inl e), (vld_i0 hV (by omega)).1, ec⟩)
      have h7 : a ≠ 7 := fun e => hC (Or.inl ⟨Or.inr (Or.inr e), (vld_i0 hV (by omega)).1, ec⟩)
      exact ⟨hro a b (fun e => h6 e.1) (fun e => h7 e.1), hrl a b h6 h7, hrc a b h6 h7⟩
  · rcases hC with ⟨ha, rfl, rfl⟩ | ⟨ha, rfl, rfl⟩
    · rcases ha with rfl | rfl | rfl
      · refine Full.congr hA.e (fun j hj => ?_)
        have e6 : Value.slice a29 (s.lv.length + 1) c29 = sl s.more (g.more (s.nt + 1) tb xe xt (a30, c30) (a29, c29)) 6 0 := by unfold sl; rw [hro6, hl6]
        have e7 : Value.slice a30 (s.out.length + 1) c30 = sl s.more (g.more (s.nt + 1) tb xe xt (a30, c30) (a29, c29)) 7 0 := by unfold sl; rw [hro7, hl7]
        by_cases j29 : j = 29
        · subst j29
          rw [upd_at, e6]; rfl
        · rw [upd_off _ _ _ _ j29]
          by_cases j30 : j = 30
          · subst j30
            rw [upd_at, e7]; rfl
          · rw [upd_off _ _ _ _ j30]
            unfold engE
            by_cases q1 : j < 28
            · rw [if_pos q1, if_pos q1]
            · rw [if_neg q1, if_neg q1]
              by_cases q2 : j = 28
              · rw [if_pos q2, if_pos q2]; rfl
              · rw [if_neg q2, if_neg q2]
                by_cases q3 : j = 42
                · rw [if_pos q3, if_pos q3]; rfl
                · rw [if_neg q3, if_neg q3]
                  have hI := engI_not j
                  have k6 : (engI j).1 ≠ 6 := fun e => j29 (engI_inj j hj 29 (by omega) (by omega) q3 (by omega) (by omega) (Prod.ext e (by
                    rcases hI.2.2.2 with e1 | e1 | e1
                    · omega
                    · omega
                    · exact e1)))
                  have k7 : (engI j).1 ≠ 7 := fun e => j30 (engI_inj j hj 30 (by omega) (by omega) q3 (by omega) (by omega) (Prod.ext e (by
                    rcases hI.2.2.2 with e1 | e1 | e1
                    · omega
                    · omega
                    · exact e1)))
                  rw [hsln _ _ k6 k7]
                  unfold sl
                  rw [gnew_ro g (fun e => by have := hI.2.1; have := hI.2.2.1; omega)]
                  have : rlen s.new (engI j).1 (engI j).2 = rlen s (engI j).1 (engI j).2 := by
                    unfold rlen
                    rw [new_q s (fun e => by have := hI.2.1; omega)]
                    simp only [if_neg hI.2.2.1]
                    rfl
                  rw [this]
      · rw [ob_v (show vld s.more 6 0 0 = true from vld_0 (by omega)), obk_row (by unfold rowx; omega)]
        show w6.ownsRow 0 155 1 (.slice ((g.more (s.nt + 1) tb xe xt (a30, c30) (a29, c29)).ro 6 0).1 (rlen s.more 6 0) ((g.more (s.nt + 1) tb xe xt (a30, c30) (a29, c29)).ro 6 0).2) (rlen s.more 6 0) (((s.lv ++ [s.nt + 1]).map (g.more (s.nt + 1) tb xe xt (a30, c30) (a29, c29)).tb).map P0)
        rw [hro6, hl6, List.map_append, List.map_append]
        have e1 : s.lv.map (g.more (s.nt + 1) tb xe xt (a30, c30) (a29, c29)).tb = s.lv.map g.tb := List.map_congr_left (fun t ht => htb (hM.b t ht))
        have e2 : ([s.nt + 1].map (g.more (s.nt + 1) tb xe xt (a30, c30) (a29, c29)).tb).map P0 = [P0 tb] := by show [P0 _] = _; rw [htbn]
        rw [e1, e2]
        exact hA.l
      · rw [ob_v (show vld s.more 7 0 0 = true from vld_0 (by omega)), obk_row (by unfold rowx; omega)]
        show w6.ownsRow 0 149 2 (.slice ((g.more (s.nt + 1) tb xe xt (a30, c30) (a29, c29)).ro 7 0).1 (rlen s.more 7 0) ((g.more (s.nt + 1) tb xe xt (a30, c30) (a29, c29)).ro 7 0).2) (rlen s.more 7 0) (valL (s.out ++ [(0, 0)]))
        rw [hro7, hl7, valL_app]
        exact hA.o
    · rw [ob_v (hv5 a ha)]
      by_cases h5 : a = 5 ∨ a = 12
      · rw [obk_row (by unfold rowx; omega)]
        show w6.ownsRow 0 (rty a) (rsz a) (sl s.more (g.more (s.nt + 1) tb xe xt (a30, c30) (a29, c29)) a (s.nt + 1)) (rlen s.more a (s.nt + 1)) (rcon s.more (g.more (s.nt + 1) tb xe xt (a30, c30) (a29, c29)) a (s.nt + 1))
        obtain ⟨e1, e2, e3, _⟩ := hn5 a h5
        rw [e1, e2, e3]
        exact World.ownsRow_nil w6 _ _ _
      · have : a = 11 ∨ a = 15 ∨ a = 16 := by omega
        rcases this with rfl | rfl | rfl
        · show Full w6 ((g.more (s.nt + 1) tb xe xt (a30, c30) (a29, c29)).tb (s.nt + 1)) 160 7 7 (tskE p s.more (g.more (s.nt + 1) tb xe xt (a30, c30) (a29, c29)) (s.nt + 1))
          rw [htbn]
          refine ⟨_, hA.t, rfl, fun j hj => ?_⟩
          have hc : j = 0 ∨ j = 1 ∨ j = 2 ∨ j = 3 ∨ j = 4 ∨ j = 5 ∨ j = 6 := by omega
          have hT : s.more.T (s.nt + 1) = tsk0 := new_T1 s
          rcases hc with rfl | rfl | rfl | rfl | rfl | rfl | rfl
          · show some (Value.int .i64 ((s.out.length : Int) + 1)) = some (Value.int .i64 ((s.nt + 1 : Nat) : Int))
            rw [ho]; rfl
          · show some (Value.slice none 0 0) = some (sl s.more (g.more (s.nt + 1) tb xe xt (a30, c30) (a29, c29)) 12 (s.nt + 1))
            rw [(hn5 12 (Or.inr rfl)).1]
          · show some (Value.bool false) = some (Value.bool (s.more.T (s.nt + 1)).run)
            rw [hT]; rfl
          · show some (Value.pointer none) = some (whV p _ (s.more.T (s.nt + 1)).wh)
            rw [hT]; rfl
          · show some Value.nilFunc = some (lfV _ (s.nt + 1) (s.more.T (s.nt + 1)).lf)
            rw [hT]; rfl
          · show some (Value.int .i64 0) = some (Value.int .i64 (s.more.T (s.nt + 1)).till)
            rw [hT]; rfl
          · show some (Value.slice none 0 0) = some (sl s.more (g.more (s.nt + 1) tb xe xt (a30, c30) (a29, c29)) 5 (s.nt + 1))
            rw [(hn5 5 (Or.inl rfl)).1]
        · show w6.heap[(g.new (s.nt + 1) tb xe xt).xe (s.nt + 1)]? = _
          rw [(gnew_at g (s.nt + 1) tb xe xt).2.1]
          exact hA.y
        · show w6.heap[(g.new (s.nt + 1) tb xe xt).xt (s.nt + 1)]? = some (.cells #[P0 ((g.new (s.nt + 1) tb xe xt).tb (s.nt + 1))] 155 (0, 0))
          rw [(gnew_at g (s.nt + 1) tb xe xt).2.2, (gnew_at g (s.nt + 1) tb xe xt).1]
          exact hA.x
  · rcases hC with ⟨ha, rfl, rfl⟩ | ⟨ha, rfl, rfl⟩
    · rcases ha with rfl | rfl | rfl
      · exact Or.inl hk
      · rw [bs_row p _ (by unfold rowx; omega) (show vld s.more 6 0 0 = true from vld_0 (by omega)), hro6] at hk
        rw [bs_row p g (by unfold rowx; omega) hv6]
        refine (hmv hA.l2 (by rw [own_adB]; exact hk)).imp id (fun hl => ⟨hl, ?_⟩)
        obtain ⟨q1, q2, q3⟩ := d6 k hk
        rw [if_neg q1, if_neg q2, if_neg q3, if_pos hk]
      · rw [bs_row p _ (by unfold rowx; omega) (show vld s.more 7 0 0 = true from vld_0 (by omega)), hro7] at hk
        rw [bs_row p g (by unfold rowx; omega) hv7]
        refine (hmv hA.o2 (by rw [own_adB]; exact hk)).imp id (fun hl => ⟨hl, ?_⟩)
        obtain ⟨q1, q2, q3, q4⟩ := d7 k hk
        rw [if_neg q1, if_neg q2, if_neg q3, if_neg q4]
    · rw [ob_v (hv5 a ha)] at hk
      by_cases h5 : a = 5 ∨ a = 12
      · rw [obk_row (by unfold rowx; omega)] at hk
        have hk' : adB ((g.more (s.nt + 1) tb xe xt (a30, c30) (a29, c29)).ro a (s.nt + 1)).1 = some k := hk
        rw [(hn5 a h5).2.2.2] at hk'
        cases hk'
      · have : a = 11 ∨ a = 15 ∨ a = 16 := by omega
        rcases this with rfl | rfl | rfl
        · have hk' : k = (g.new (s.nt + 1) tb xe xt).tb (s.nt + 1) := hk
          rw [(gnew_at g (s.nt + 1) tb xe xt).1] at hk'
          subst hk'
          exact Or.inr ⟨hA.n.1, if_pos rfl⟩
        · have hk' : k = (g.new (s.nt + 1) tb xe xt).xe (s.nt + 1) := hk
          rw [(gnew_at g (s.nt + 1) tb xe xt).2.1] at hk'
          subst hk'
          exact Or.inr ⟨hA.n.2.1, by rw [if_neg d1, if_pos rfl]⟩
        · have hk' : k = (g.new (s.nt + 1) tb xe xt).xt (s.nt + 1) := hk
          rw [(gnew_at g (s.nt + 1) tb xe xt).2.2] at hk'
          subst hk'
          exact Or.inr ⟨hA.n.2.2, by rw [if_neg d2, if_neg d3, if_pos rfl]⟩
def okSlot (f : Fb) (M : Nat → List B.V) (x y : B.V) : Prop := x.1 ≠ 0 ∧ f.k x.1 = 0 ∧ y.1 = 0 ∧ 0 ≤ y.2 ∧ y.2 < ((M x.1).length : Int)
def slotWhy (f : Fb) (x y : B.V) : Nat := if x.1 = 0 ∨ f.k x.1 ≠ 0 then 2 else if y.1 ≠ 0 then 1 else 3
theorem slotWhy_le (f : Fb) (x y : B.V) : 1 ≤ slotWhy f x y ∧ slotWhy f x y ≤ 3 := by unfold slotWhy; split; omega; split <;> omega
def Slotted (f : Fb) (M : Nat → List B.V) (x y : B.V) (v : Value) : Prop :=
  (okSlot f M x y ∧ v = .tuple #[.int .i64 y.2, .int .i64 0]) ∨ (¬ okSlot f M x y ∧ v = .tuple #[.int .i64 0, .int .i64 (slotWhy f x y)])
set_option maxRecDepth 100000 in
set_option maxHeartbeats 2000000 in
theorem slot_any (op a b c fb tb eb sb pb n : Nat) (x y : B.V) (kd : B.Kd) (vb : Vs) (M : Nat → List B.V) (w : World) (hS : Str w sb pb eb n kd vb M) (hn : n ≤ 200) (hx : B.Vok kd.on n x) (h26 : w.cell? ⟨eb, 27, none⟩ = some (P0 sb)) (le : eb < w.heap.size) :
    Calls Tryz.prog 158 #[stepV op a b c fb tb eb, vA x, vA y] w fun e w' => ∃ v, e = .returned v ∧ w.grownBy w' none ∧ Slotted vb.f M x y v := by
  have KS := hid hS
  have HX := hid hx
  obtain ⟨y1, y2⟩ := y
  have hl8 : x.1 ≠ 0 → (M x.1).length ≤ 8 := fun h0 => by
    rcases hx with h | h
    · exact absurd h h0
    · exact hS.p.l _ h.2.2.1
  clear hS hx
  go_enter Tryz.func158, Tryz.ntmps158
  go_wp2_with fail
  generalize hW : ((w.alloc (.cells #[.int .u8 (op : Int), .int .u8 (a : Int), .int .u8 (b : Int), .int .u8 (c : Int), P0 fb, P0 tb, P0 eb] 186)).alloc (.cells #[.int .i64 (x.1 : Int), .int .i64 x.2] 149)).alloc (.cells #[.int .i64 (y1 : Int), .int .i64 y2] 149) = w1
  have KG1 : Hid (w.grownBy w1 none) := by rw [← hW]; exact grown_alloc (grown_alloc (World.grownBy_alloc _ _ _) _) _
  have hx1 : w1.heap[w.heap.size]? = some (stpB op a b c fb tb eb) := by rw [← hW, Below.heap_alloc _ _ _ (by simp; omega), Below.heap_alloc _ _ _ (by simp)]; exact heap_alloc_new w _
  have hx2 : w1.heap[w.heap.size + 1]? = some (.cells #[.int .i64 (x.1 : Int), .int .i64 x.2] 149 (0, 0)) := by
    rw [← hW, Below.heap_alloc _ _ _ (by simp)]
    have := heap_alloc_new (w.alloc (.cells #[.int .u8 (op : Int), .int .u8 (a : Int), .int .u8 (b : Int), .int .u8 (c : Int), P0 fb, P0 tb, P0 eb] 186)) (.cells #[.int .i64 (x.1 : Int), .int .i64 x.2] 149)
    simpa using this
  have hx3 : w1.heap[w.heap.size + 1 + 1]? = some (.cells #[.int .i64 (y1 : Int), .int .i64 y2] 149 (0, 0)) := by
    rw [← hW]
    have := heap_alloc_new ((w.alloc (.cells #[.int .u8 (op : Int), .int .u8 (a : Int), .int .u8 (b : Int), .int .u8 (c : Int), P0 fb, P0 tb, P0 eb] 186)).alloc (.cells #[.int .i64 (x.1 : Int), .int .i64 x.2] 149)) (.cells #[.int .i64 (y1 : Int), .int .i64 y2] 149)
    simpa using this
  clear hW
  have H3 := hid hx3
  have x6 := (s7_of hx1).2.2.2.2.2.2
  have c0 : w1.cell? ⟨w.heap.size + 1, 0, none⟩ = some (.int .i64 (x.1 : Int)) := by simp [World.cell?, hx2]
  have c1 : w1.cell? ⟨w.heap.size + 1, 1, none⟩ = some (.int .i64 x.2) := by simp [World.cell?, hx2]
  obtain ⟨d26, _⟩ := grown_cell KG1.out (a := ⟨eb, 27, none⟩) le
  rw [h26] at d26
  have lx1 := heap_lt hx1
  have lx2 := heap_lt hx2
  have lx3 := heap_lt hx3
  have le1 : eb < w1.heap.size := by have := KG1.out.size; omega
  clear hx1 hx2 hx3
  have HS : Hid (∀ w' : World, w1.grownBy w' none → w'.cell? ⟨w.heap.size, 6, none⟩ = some (P0 eb) ∧ w'.cell? ⟨eb, 27, none⟩ = some (P0 sb) ∧ w'.cell? ⟨w.heap.size + 1, 0, none⟩ = some (.int .i64 (x.1 : Int)) ∧ w'.cell? ⟨w.heap.size + 1, 1, none⟩ = some (.int .i64 x.2)) :=
    fun w' hg => ⟨(grown_cell hg (a := ⟨w.heap.size, 6, none⟩) lx1).1.trans x6, (grown_cell hg (a := ⟨eb, 27, none⟩) le1).1.trans d26, (grown_cell hg (a := ⟨w.heap.size + 1, 0, none⟩) lx2).1.trans c0, (grown_cell hg (a := ⟨w.heap.size + 1, 1, none⟩) lx2).1.trans c1⟩
  go_region_held3 (fun w' => w'.cell? ⟨w.heap.size, 6, none⟩ = some (P0 eb) ∧ w'.cell? ⟨eb, 27, none⟩ = some (P0 sb) ∧ w'.cell? ⟨w.heap.size + 1, 0, none⟩ = some (.int .i64 (x.1 : Int)) ∧ w'.cell? ⟨w.heap.size + 1, 1, none⟩ = some (.int .i64 x.2)) (first | exact HS.out _ (grown_drew (grown_refl _ _)) | exact HS.out _ HG2.out) (first | (go_at_call 200; refine (slots_any sb pb eb n x kd vb M w1.drew (KS.out.kept (grown_drew KG1.out)) hn HX.out).mono ?_; rintro e w2 ⟨hg2, hc⟩; have HG2 : Hid (w1.grownBy w2 none) := ⟨hg2.os, hg2.tape, hg2.output, hg2.size, hg2.block⟩; obtain ⟨n2, ob, rfl, hcc⟩ : ∃ (n2 : Int) (ob : Bool), e = .returned (.tuple #[.int .i64 n2, .bool ob]) ∧ (((x.1 = 0 ∨ vb.f.k x.1 ≠ 0) ∧ ob = false) ∨ ((x.1 ≠ 0 ∧ vb.f.k x.1 = 0) ∧ ob = true ∧ n2 = ((M x.1).length : Int))) := (by unfold slotsV at hc; split at hc; exact ⟨_, _, hc, Or.inl ⟨(by assumption), rfl⟩⟩; exact ⟨_, _, hc, Or.inr ⟨⟨fun h => (by rename_i hh; exact hh (Or.inl h)), (by rename_i hh; exact Classical.byContradiction fun h => hh (Or.inr h))⟩, rfl, rfl⟩⟩); have HCC := hid hcc; clear hc hcc hg2))
  all_goals
    have hx3 := grown_out HG2.out H3.out
    have e0 : w2.cell? ⟨w.heap.size + 1 + 1, 0, none⟩ = some (.int .i64 (y1 : Int)) := by simp [World.cell?, hx3]
    have e1 : w2.cell? ⟨w.heap.size + 1 + 1, 1, none⟩ = some (.int .i64 y2) := by simp [World.cell?, hx3]
    have le3 := heap_lt hx3
    have KG2 := hid (grown_trans KG1.out HG2.out)
    clear hx3 x6 c0 c1 d26
    rcases HCC.out with ⟨h1, rfl⟩ | ⟨h1, rfl, rfl⟩
    · have HP := hid (show ¬ okSlot vb.f M x (y1, y2) ∧ slotWhy vb.f x (y1, y2) = 2 from ⟨fun h => h1.elim h.1 (fun g => g h.2.1), by unfold slotWhy; rw [if_pos h1]⟩)
      clear h1 hl8
      go_wp2_with fail
      go_ret2
      exact ⟨_, rfl, KG2.out, Or.inr ⟨HP.out.1, by rw [HP.out.2]; rfl⟩⟩
    · have hl := hl8 h1.1
      have H1 := hid h1
      clear hl8 h1
      go_wp2_with fail
      refine (vnumber_any (y1, y2) _).mono ?_
      rintro e w3 ⟨rfl, hg3⟩
      have KG3 := hid (grown_trans KG2.out hg3)
      clear hg3 e0 e1
      generalize hln : (M x.1).length = ln at *
      have HLN := hid hln
      clear hln
      by_cases hy : y1 = 0
      · have hd : decide (y1 = 0) = true := by simpa using hy
        simp only [hd]
        by_cases h0 : y2 < 0
        · have HP := hid (show ¬ okSlot vb.f M x (y1, y2) ∧ slotWhy vb.f x (y1, y2) = 3 from ⟨fun h => by have : (0 : Int) ≤ y2 := h.2.2.2.1; omega, by unfold slotWhy; rw [if_neg (fun g => g.elim H1.out.1 (fun g => g H1.out.2)), if_neg (fun g => g hy)]⟩)
          have hneg : decide (y2 < 0) = true := by simpa using h0
          clear hy hd
          go_wp2_with fail
          go_ret2
          exact ⟨_, rfl, KG3.out, Or.inr ⟨HP.out.1, by rw [HP.out.2]; rfl⟩⟩
        · obtain ⟨i, hi⟩ : ∃ i : Nat, y2 = i := ⟨y2.toNat, by omega⟩
          subst hi
          by_cases hlt : i < ln
          · have HP := hid (show okSlot vb.f M x (y1, (i : Int)) from ⟨H1.out.1, H1.out.2, hy, by show (0 : Int) ≤ (i : Int); omega, by show (i : Int) < _; rw [HLN.out]; omega⟩)
            have hli : (i : Int) < (ln : Int) := by omega
            have hge : decide ((ln : Int) ≤ (i : Int)) = false := by simp; omega
            have hng : decide ((i : Int) < 0) = false := by simp
            clear hy hd h0
            go_wp2_with fail
            go_ret2
            exact ⟨_, rfl, KG3.out, Or.inl ⟨HP.out, rfl⟩⟩
          · have HP := hid (show ¬ okSlot vb.f M x (y1, (i : Int)) ∧ slotWhy vb.f x (y1, (i : Int)) = 3 from ⟨fun h => by have : (i : Int) < _ := h.2.2.2.2; rw [HLN.out] at this; omega, by unfold slotWhy; rw [if_neg (fun g => g.elim H1.out.1 (fun g => g H1.out.2)), if_neg (fun g => g hy)]⟩)
            have hge : decide ((ln : Int) ≤ (i : Int)) = true := by simp; omega
            have hng : decide ((i : Int) < 0) = false := by simp
            have hge2 : (ln : Int) ≤ (i : Int) := by omega
            clear hy hd h0
            go_wp2_with fail
            go_ret2
            exact ⟨_, rfl, KG3.out, Or.inr ⟨HP.out.1, by rw [HP.out.2]; rfl⟩⟩
      · have hd : decide (y1 = 0) = false := by simpa using hy
        simp only [hd]
        have HP := hid (show ¬ okSlot vb.f M x (y1, y2) ∧ slotWhy vb.f x (y1, y2) = 1 from ⟨fun h => hy h.2.2.1, by unfold slotWhy; rw [if_neg (fun g => g.elim H1.out.1 (fun g => g H1.out.2)), if_pos hy]⟩)
        clear hy hd
        go_wp2_with fail
        go_ret2
        exact ⟨_, rfl, KG3.out, Or.inr ⟨HP.out.1, by rw [HP.out.2]; rfl⟩⟩
set_option maxRecDepth 100000 in
set_option maxHeartbeats 2000000 in
theorem act10_any (op a b c fb tb eb cb L nx rb nr sb pb n : Nat) (back : Value) (kd : B.Kd) (vb : Vs) (R : Nat → B.V) (M : Nat → List B.V) (w : World) (hF : Fr w fb cb L nx rb nr back R) (hS : Str w sb pb eb n kd vb M) (hV : ∀ i, i < nr → B.Vok kd.on n (R i)) (hn : n ≤ 200) (ha : a < nr) (hb : b < nr) (hc : c < nr) (h26 : w.cell? ⟨eb, 27, none⟩ = some (P0 sb)) (le : eb < w.heap.size) (her : eb ≠ rb) :
    Calls Tryz.prog 101 #[stepV op a b c fb tb eb] w fun e w' => (okSlot vb.f M (R b) (R c) ∧ e = .returned (.int .i64 0) ∧ w.grownBy w' (some rb) ∧ Fr w' fb cb L nx rb nr back (B.set R a ((M (R b).1).getD (R c).2.toNat (0, 0)))) ∨ (¬ okSlot vb.f M (R b) (R c) ∧ e = .returned (.int .i64 (slotWhy vb.f (R b) (R c))) ∧ w.grownBy w' none) := by
  have KF := hid hF
  have KS := hid hS
  have HV := hid hV
  have HER : Hid (eb ≠ rb) := her
  clear hF hS hV her
  go_enter Tryz.func101, Tryz.ntmps101
  go_wp2_with fail
  have HX1 := hid (s7_new w op a b c fb tb eb)
  have KG1 := hid (World.grownBy_alloc w (.cells #[.int .u8 (op : Int), .int .u8 (a : Int), .int .u8 (b : Int), .int .u8 (c : Int), P0 fb, P0 tb, P0 eb] 186) none)
  generalize hW : w.alloc (.cells #[.int .u8 (op : Int), .int .u8 (a : Int), .int .u8 (b : Int), .int .u8 (c : Int), P0 fb, P0 tb, P0 eb] 186) = w1 at *
  have hz1 : w1.heap.size = w.heap.size + 1 := by rw [← hW]; simp
  clear hW
  go_region_held3 (fun w' => w'.cell? ⟨w.heap.size, 0, none⟩ = some (.int .u8 (op : Int)) ∧ w'.cell? ⟨w.heap.size, 1, none⟩ = some (.int .u8 (a : Int)) ∧ w'.cell? ⟨w.heap.size, 2, none⟩ = some (.int .u8 (b : Int)) ∧ w'.cell? ⟨w.heap.size, 3, none⟩ = some (.int .u8 (c : Int)) ∧ w'.cell? ⟨w.heap.size, 4, none⟩ = some (P0 fb) ∧ w'.cell? ⟨w.heap.size, 5, none⟩ = some (P0 tb) ∧ w'.cell? ⟨w.heap.size, 6, none⟩ = some (P0 eb)) (first | exact s7_of HX1.out | exact s7_of HX2.out | exact s7_of HX3.out | exact s7_of HX4.out) (first | (go_at_call 86; refine (b_any op a b c fb tb eb cb L nx rb nr back R w1.drew (KF.out.kept (grown_drew KG1.out)).1 (KF.out.kept (grown_drew KG1.out)).2.1 hb).mono ?_; rintro e w2 ⟨rfl, hg2⟩; have KG2 : Hid (w.grownBy w2 none) := grown_trans (grown_drew KG1.out) hg2; have HX2 := hid (grown_out hg2 (show w1.drew.heap[w.heap.size]? = _ from HX1.out)); clear hg2) | (go_at_call 94; refine (c_any op a b c fb tb eb cb L nx rb nr back R w2 (KF.out.kept KG2.out).1 (KF.out.kept KG2.out).2.1 hc).mono ?_; rintro e w3 ⟨rfl, hg3⟩; have KG3 : Hid (w.grownBy w3 none) := grown_trans KG2.out hg3; have HX3 := hid (grown_out hg3 HX2.out); clear hg3) | (go_at_call 158; refine (slot_any op a b c fb tb eb sb pb n (R b) (R c) kd vb M w3 (KS.out.kept KG3.out) hn (HV.out b hb) ((grown_cell KG3.out (a := ⟨eb, 27, none⟩) le).1.trans h26) (Nat.lt_of_lt_of_le le KG3.out.size)).mono ?_; rintro e w4 ⟨v, rfl, hg4, hsl⟩; have KG4 : Hid (w.grownBy w4 none) := grown_trans KG3.out hg4; have HX4 := hid (grown_out hg4 HX3.out); obtain ⟨pv, wy, rfl⟩ : ∃ (pv : Value) (wy : Int), v = .tuple #[pv, .int .i64 wy] := (by rcases hsl with ⟨_, h⟩ | ⟨_, h⟩; exact ⟨_, _, h⟩; exact ⟨_, _, h⟩); have HSL := hid hsl; clear hg4 hsl))
  all_goals
    rcases HSL.out with ⟨hok, he⟩ | ⟨hok, he⟩
    · have HOK := hid hok
      obtain ⟨o1, ok, o2, o3, o4⟩ := id hok
      have hp : 1 ≤ (R b).1 ∧ (R b).1 ≤ n ∧ kd.on (R b).1 = true := by
        rcases HV.out b hb with h | h
        · exact absurd h o1
        · exact ⟨h.1, h.2.1, h.2.2.1⟩
      injection he with he
      injection he with he
      injection he with he1 he2
      injection he2 with he2 _
      injection he2 with _ he2
      subst he1 he2
      obtain ⟨i, hi⟩ : ∃ i : Nat, (R c).2 = (i : Int) := ⟨(R c).2.toNat, by omega⟩
      obtain ⟨k, hk⟩ : ∃ k, (R b).1 = k + 1 := ⟨(R b).1 - 1, by omega⟩
      have hil : i < (M (k + 1)).length := by rw [hi, hk] at o4; omega
      have hso : ∀ w' : World, w.grownBy w' none → Calls Tryz.prog 159 #[P0 sb, vA (R b), .int .i64 (R c).2] w' fun e w'' => e = .returned (vA ((M (R b).1).getD (R c).2.toNat (0, 0))) ∧ w'.grownBy w'' none := by
        intro w' hg
        have e1 : R b = (k + 1, (R b).2) := Prod.ext hk rfl
        rw [hk, hi]
        have := slotOf_any sb pb eb n k i (R b).2 kd vb M w' (KS.out.kept hg) hn (by omega) (by rw [← hk]; exact hp.2.2) hil
        rw [← e1] at this
        exact this
      have HSO := hid hso
      generalize hval : (M (R b).1).getD (R c).2.toNat (0, 0) = val at *
      have HVAL := hid hval
      generalize hyy : (R c).2 = yy at *
      have HYY := hid hyy
      clear hyy
      clear hok ok o1 o2 o3 o4 hp hi hk hil hso hval
      have HF4 := hid (KF.out.kept KG4.out)
      obtain ⟨x0, x1, x2, x3, x4, x5, x6⟩ := s7_of HX4.out
      have lx := heap_lt HX4.out
      have nxr : w.heap.size ≠ rb := by have := KF.out.2.1.lt; omega
      have ner : eb ≠ rb := by have := HER.out; exact this
      have hz4 := KG4.out.size
      have HS : Hid (∀ w' : World, Only (fun k => k = rb) w4 w' → (w'.cell? ⟨w.heap.size, 0, none⟩ = some (.int .u8 (op : Int)) ∧ w'.cell? ⟨w.heap.size, 1, none⟩ = some (.int .u8 (a : Int)) ∧ w'.cell? ⟨w.heap.size, 2, none⟩ = some (.int .u8 (b : Int)) ∧ w'.cell? ⟨w.heap.size, 3, none⟩ = some (.int .u8 (c : Int)) ∧ w'.cell? ⟨w.heap.size, 4, none⟩ = some (P0 fb) ∧ w'.cell? ⟨w.heap.size, 5, none⟩ = some (P0 tb) ∧ w'.cell? ⟨w.heap.size, 6, none⟩ = some (P0 eb) ∧ w'.cell? ⟨eb, 27, none⟩ = some (P0 sb))) :=
        fun w' hO => ⟨(hO.cell lx nxr).trans x0, (hO.cell lx nxr).trans x1, (hO.cell lx nxr).trans x2, (hO.cell lx nxr).trans x3, (hO.cell lx nxr).trans x4, (hO.cell lx nxr).trans x5, (hO.cell lx nxr).trans x6, (hO.cell (by omega) ner).trans ((grown_cell KG4.out (a := ⟨eb, 27, none⟩) le).1.trans h26)⟩
      have HSA := hid (HS.out w4.drew (only_refl _ _))
      go_wp2_with fail
      go_region_held3 (fun w' => w'.cell? ⟨w.heap.size, 0, none⟩ = some (.int .u8 (op : Int)) ∧ w'.cell? ⟨w.heap.size, 1, none⟩ = some (.int .u8 (a : Int)) ∧ w'.cell? ⟨w.heap.size, 2, none⟩ = some (.int .u8 (b : Int)) ∧ w'.cell? ⟨w.heap.size, 3, none⟩ = some (.int .u8 (c : Int)) ∧ w'.cell? ⟨w.heap.size, 4, none⟩ = some (P0 fb) ∧ w'.cell? ⟨w.heap.size, 5, none⟩ = some (P0 tb) ∧ w'.cell? ⟨w.heap.size, 6, none⟩ = some (P0 eb) ∧ w'.cell? ⟨eb, 27, none⟩ = some (P0 sb)) (first | exact HSA.out | exact HSB.out | exact HSC.out | exact HSD.out) (first | (go_at_call 86; refine (b_any op a b c fb tb eb cb L nx rb nr back R w4.drew (HF4.out.kept (grown_drew (grown_refl _ _))).1 (HF4.out.kept (grown_drew (grown_refl _ _))).2.1 hb).mono ?_; rintro e w5 ⟨rfl, hg5⟩; have KG5 : Hid (w4.grownBy w5 none) := ⟨hg5.os, hg5.tape, hg5.output, hg5.size, hg5.block⟩; have HSB := hid (HS.out w5 (only_none KG5.out)); clear hg5) | (go_at_call 159; refine (HSO.out w5 (grown_trans KG4.out KG5.out)).mono ?_; rintro e w6 ⟨rfl, hg6⟩; have KG6 : Hid (w4.grownBy w6 none) := grown_trans KG5.out hg6; have HSC := hid (HS.out w6 (only_none KG6.out)); clear hg6) | (go_at_call 149; refine (set_any op a b c fb tb eb cb L nx rb nr back R val w6 (HF4.out.kept KG6.out).1 (HF4.out.kept KG6.out).2.1 ha).mono ?_; rintro e w7 ⟨rfl, hg7, hf7⟩; have HSD := hid (HS.out w7 ((only_none (S := fun k => k = rb) KG6.out).then hg7 (Or.inl rfl))); have HR := hid (And.intro (grown_trans (grown_of_none (grown_trans KG4.out KG6.out)) hg7) (And.intro (grown_heap hg7 (HF4.out.kept KG6.out).1 (by intro e; injection e with e; exact KF.out.2.2 e)) hf7)); clear hg7 hf7))
      all_goals
        go_wp2_with fail
        go_ret
        exact Or.inl ⟨HOK.out, rfl, HR.out.1, HR.out.2.1, by rw [HYY.out, HVAL.out]; exact HR.out.2.2, KF.out.2.2⟩
    · have hwl := slotWhy_le vb.f (R b) (R c)
      generalize hwy : slotWhy vb.f (R b) (R c) = why at *
      have HWY := hid hwy
      injection he with he
      injection he with he
      injection he with he1 he2
      injection he2 with he2 _
      injection he2 with _ he2
      subst he1 he2
      have HOK := hid hok
      have hne0 : ¬ ((why : Int) = 0) := by omega
      clear hok hwy hwl
      go_wp2_with fail
      go_ret
      exact Or.inr ⟨HOK.out, by rw [HWY.out]; rfl, KG4.out⟩
end Go.Proofs.YtnjiinbhbjpfkaaGreatDoor.F
