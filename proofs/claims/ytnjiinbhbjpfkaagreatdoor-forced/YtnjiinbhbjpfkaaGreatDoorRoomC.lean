/-
  A task's life ends: the function that was called first gives a value; an instruction fails.
-/
import Derived.Test.YtnjiinbhbjpfkaaGreatDoorRoomB
import Derived.Test.YtnjiinbhbjpfkaaGreatDoorRoomA
import Derived.WalkKit
import Derived.WalkSpells
import Derived.WalkLawsBesides
import Derived.BigQuiet
import Derived.Deep.QuietTactic
namespace Go.Proofs.YtnjiinbhbjpfkaaGreatDoor
open Go.RowKit

theorem Leav.alloc {w : World} {eb tb lb cl ob co base : Nat} {ad : Option Addr} {n cap : Nat} {ev : List B.Ev} {E Tk : Nat → Value} (h : Leav w eb tb lb cl ob co base ad n cap ev E Tk) {w' : World} (hg : w.grownBy w' none) : Leav w' eb tb lb cl ob co base ad n cap ev E Tk := by
  obtain ⟨hE, hT, h28, o28, h29, o29, h30, h42, o42, t0, t3, t6, hb, hn⟩ := h
  have hk : ∀ k, k < w.heap.size → w'.heap[k]? = w.heap[k]? := fun k hk => hg.block k hk (by intro e; cases e)
  exact ⟨hE.block (hk _ hE.lt), hT.block (hk _ hT.lt), h28, own_of o28 (fun k h => hk k (own_ty o28 k h).2.1), h29, own_of o29 (fun k h => hk k (own_ty o29 k h).2.1), h30, h42, own_of o42 (fun k h => hk k (own_ty o42 k h).2.1), t0, t3, t6, Nat.le_trans hb hg.size, hn⟩
theorem Left.pre {w w1 w' : World} {eb tb lb ob base n : Nat} {ad : Option Addr} {cap : Nat} {ev : List B.Ev} {E : Nat → Value} {v : B.V} (hg : w.grownBy w1 none) (h : Left w1 w' eb tb lb ob base n ad cap ev E v) : Left w w' eb tb lb ob base n ad cap ev E v := by
  obtain ⟨E', g, c, a', c', h1, h2, h3, h4, h5, k1, k2, k3, h6, h7, h8, h9⟩ := h
  have k4 : Kept w.heap.size w' (E' 31) v := by
    rcases k3 with h | ⟨h1, g', c', h2, h3⟩
    · exact Or.inl h
    · refine Or.inr ⟨h1, g', c', h2, h3.1, ?_⟩
      rcases h3.2 with h | ⟨a1, a2, a3, a4, a5, a6⟩
      · exact Or.inl h
      · exact Or.inr ⟨a1, a2, a3, a4, Nat.le_trans hg.size a5, a6⟩
  exact ⟨E', g, c, a', c', h1, h2, h3, h4, h5, k1, k2, k4, h6, h7, h8, (only_none hg).trans h9 (fun _ h _ => h)⟩

set_option maxRecDepth 100000 in
theorem end_any (eb tb lb cl ob co base : Nat) (v : B.V) (ad : Option Addr) (n cap : Nat) (ev : List B.Ev) (E Tk : Nat → Value) (w : World) (hL : Leav w eb tb lb cl ob co base ad n cap ev E Tk) :
    Calls Tryz.prog 121 #[P0 eb, P0 tb, vA v] w fun e w' => e = .returned (.tuple #[]) ∧ Left w w' eb tb lb ob base n ad cap (ev ++ [(2, v.2)]) E v := by
  have HL := hid hL
  clear hL
  obtain ⟨v1, v2⟩ := v
  go_enter Tryz.func121, Tryz.ntmps121
  go_wp2_with fail
  refine (vnumber_any (v1, v2) _).mono ?_
  rintro e w1 ⟨rfl, hg1⟩
  have hz := hg1.size
  simp at hz
  obtain ⟨k0, _⟩ := grown_cell hg1 (a := ⟨w.heap.size, 0, none⟩) (by simp)
  obtain ⟨k1, _⟩ := grown_cell hg1 (a := ⟨w.heap.size, 1, none⟩) (by simp)
  simp [go_sem] at k0 k1
  have KG : Hid (w.grownBy w1 none) := grown_trans (World.grownBy_alloc _ _ _) hg1
  clear hg1
  go_wp2_with fail
  refine (leave_any eb tb lb cl ob co base 2 v2 (v1, v2) ad n cap ev E Tk w1 (HL.out.alloc KG.out)).mono ?_
  rintro e w2 ⟨rfl, hL2⟩
  have HL2 := hid (Left.pre KG.out hL2)
  clear hL2
  go_wp2_with fail
  go_end0
  exact ⟨rfl, HL2.out⟩

set_option maxRecDepth 100000 in
theorem fail_any (eb tb lb cl ob co base why : Nat) (hw : why ≤ 8) (ad : Option Addr) (n cap : Nat) (ev : List B.Ev) (E Tk : Nat → Value) (w : World) (hL : Leav w eb tb lb cl ob co base ad n cap ev E Tk) :
    Calls Tryz.prog 187 #[P0 eb, P0 tb, .int .i64 why] w fun e w' => e = .returned (.tuple #[]) ∧ ∃ y, Left w w' eb tb lb ob base n ad cap (ev ++ [(3, (why : Int))]) E (0, y) := by
  have HL := hid hL
  clear hL
  go_enter Tryz.func187, Tryz.ntmps187
  go_wp2_with fail
  refine (number_any _ _).mono ?_
  rintro e w1 ⟨rfl, rfl⟩
  go_wp2_with fail
  refine (leave_any eb tb lb cl ob co base 3 why (0, _) ad n cap ev E Tk _ (HL.out.alloc (World.grownBy_alloc _ _ _))).mono ?_
  rintro e w2 ⟨rfl, hL2⟩
  have HL2 := hid (Left.pre (World.grownBy_alloc _ _ _) hL2)
  clear hL2
  go_wp2_with fail
  go_end0
  exact ⟨rfl, _, HL2.out⟩

set_option maxRecDepth 100000 in
theorem begin1_any (eb tb lb cl ob co base xe xt : Nat) (v : B.V) (ad : Option Addr) (n cap : Nat) (ev : List B.Ev) (E Tk : Nat → Value) (w : World) (hL : Leav w eb tb lb cl ob co base ad n cap ev E Tk) (he : w.cell? ⟨xe, 0, none⟩ = some (P0 eb)) (ht : w.cell? ⟨xt, 0, none⟩ = some (P0 tb)) (le : xe < w.heap.size) (lt : xt < w.heap.size) :
    Calls Tryz.prog 120 #[vA v, P0 xe, P0 xt] w fun e w' => e = .returned (.tuple #[]) ∧ Left w w' eb tb lb ob base n ad cap (ev ++ [(2, v.2)]) E v := by
  have HL := hid hL
  clear hL
  obtain ⟨v1, v2⟩ := v
  go_enter Tryz.func120, Tryz.ntmps120
  go_wp2_with fail
  refine (end_any eb tb lb cl ob co base (v1, v2) ad n cap ev E Tk _ (HL.out.alloc (World.grownBy_alloc _ _ _))).mono ?_
  rintro e w2 ⟨rfl, hL2⟩
  have HL2 := hid (Left.pre (World.grownBy_alloc _ _ _) hL2)
  clear hL2
  go_wp2_with fail
  go_end0
  exact ⟨rfl, HL2.out⟩
end Go.Proofs.YtnjiinbhbjpfkaaGreatDoor

/-
  A function gives a value: the one that was called first.
-/
namespace Go.Proofs.YtnjiinbhbjpfkaaGreatDoor
open Go.RowKit

theorem Tryz.info184 : (Tryz.prog.info? 184).map (fun i => (i.zero, i.size, i.bytes)) = some (some (.pointer none), 1, 8) := by kernel_rfl

set_option maxRecDepth 100000 in
set_option maxHeartbeats 1000000 in
theorem fdelete_any (g c tb base : Nat) (w : World) (hown : w.ownsRow base 184 1 (.slice (some ⟨g, 0, none⟩) 1 c) 1 [P0 tb]) :
    Calls Tryz.prog 165 #[.slice (some ⟨g, 0, none⟩) 1 c, .int .i64 0, .int .i64 1] w fun e w' => e = .returned (.slice (some ⟨g, 0, none⟩) 0 c) ∧ w'.ownsRow base 184 1 (.slice (some ⟨g, 0, none⟩) 0 c) 0 [] ∧ w.grownBy w' (some g) := by
  obtain ⟨cur, hg, hc, hm, hs⟩ : ∃ cur, w.heap[g]? = some (.cells cur 184 (0, 0)) ∧ 1 ≤ c ∧ c ≤ maxLen ∧ cur.size = c := by
    rcases hown.2 with ⟨h, _⟩ | ⟨g', c', cur, h1, _, h2, h3, h4, h5, _⟩
    · cases h
    · cases h1; exact ⟨cur, h2, h3, h4, by simpa using h5⟩
  have hb : base ≤ g := by
    rcases hown.2 with ⟨h, _⟩ | ⟨g', c', cur, h1, h2, _⟩
    · cases h
    · cases h1; exact h2
  clear hown
  have hci : (1 : Int) ≤ (c : Int) := by omega
  obtain ⟨i0, hi, hz0, hz1, hz2⟩ := info_parts Tryz.info184
  have hv : ∀ w, (zeroValue 184).run Tryz.prog w = .ok (.pointer none) w := by intro w; simp [zeroValue, typeInfo, hi, hz0]
  have hrun : ∀ (ty : TypeId) (c' : Nat), (Builtin.clear_ #[156] ty #[.slice (some ⟨g, 0, none⟩) 1 c']).run Tryz.prog w.drew = .ok (.tuple #[]) (w.drew.setCell ⟨g, 0, none⟩ (.pointer none)) := by
    intro ty c'
    refine Go.Lib.run_clear_slice (P := Tryz.prog) w.drew 156 184 ty (.pointer none) Tryz.underlying156 hv rfl rfl g 0 1 c' (by omega) ?_ ?_
    · intro j hj
      have : j = 0 := by omega
      subst this
      have hg' : w.drew.heap[g]? = some (.cells cur 184 (0, 0)) := hg
      simp only [World.cell?, hg']
      simp; omega
    · intro j hj
      have hg' : w.drew.heap[g]? = some (.cells cur 184 (0, 0)) := hg
      simp only [World.frozen?, hg']
      simp
  go_enter Tryz.func165, Tryz.ntmps165
  go_wp2_with fail
  go_region_law (refine step_append_zero rfl (.tmp 22) (.tmp 25) 156 rfl 184 i0 Tryz.underlying156 hi (some ⟨g, 0, none⟩) (if c = 1 then some ⟨g, 0, none⟩ else some ⟨g, 1, none⟩) 0 c (c - 1) (by first | rfl | simp [Act.eval, Act.put]) (by first | rfl | simp [Act.eval, Act.put]) (by omega) ?_)
  all_goals
    go_wp2_with fail
    all_goals
      go_ret
      refine ⟨rfl, ⟨rfl, Or.inr ⟨g, _, cur.setIfInBounds 0 (.pointer none), rfl, hb, ?_, by omega, by omega, by simp; omega, by simp⟩⟩, ?_⟩
      · show (World.setCell w ⟨g, 0, none⟩ (.pointer none)).heap[g]? = _
        simp [World.setCell, Array.getElem?_modify, hg]
      · repeat (first | exact grown_refl _ _ | refine grown_drew ?_ | refine grown_setCell ?_ (Or.inl rfl) _)


set_option maxRecDepth 100000 in
set_option maxHeartbeats 2000000 in
theorem giveBack_any (eb tb lb cl ob co base xe xt kb ck fb cb L nx rb nr : Nat) (v : B.V) (ad : Option Addr) (n cap : Nat) (ev : List B.Ev) (E Tk : Nat → Value) (w : World) (hL : Leav w eb tb lb cl ob co base ad n cap ev E Tk) (he : w.heap[xe]? = some (.cells #[P0 eb] 95 (0, 0))) (ht : w.heap[xt]? = some (.cells #[P0 tb] 155 (0, 0)))
    (hT1 : Tk 1 = .slice (some ⟨kb, 0, none⟩) 1 ck) (hK : w.ownsRow 0 184 1 (.slice (some ⟨kb, 0, none⟩) 1 ck) 1 [P0 fb]) (hF : w.heap[fb]? = some (frmB cb L nx rb nr (Fv 120 #[P0 xe, P0 xt]))) :
    Calls Tryz.prog 107 #[P0 tb, vA v] w fun e w' => e = .returned (.tuple #[]) ∧ ∃ w1, Left w1 w' eb tb lb ob base n ad cap (ev ++ [(2, v.2)]) E v ∧ Only (fun k => k = tb ∨ k = kb) w w1 := by
  have HL := hid hL
  obtain ⟨hE, hT, _, o28, _, o29, _, _, o42, _⟩ := hL
  have ne : eb ≠ tb := hE.ne hT (by decide)
  have c1 := hT.cell 1 (by omega)
  rw [hT1] at c1
  obtain ⟨_, z1⟩ := hT.cells 1 (by omega)
  have lt := hT.lt
  have k0 : w.cell? ⟨kb, 0, none⟩ = some (P0 fb) := by
    rcases hK.2 with ⟨h, _⟩ | ⟨g', c', cur, h1, _, h2, _, _, h3, h4⟩
    · cases h
    · cases h1
      have : cur[0]? = some (P0 fb) := by
        have := congrArg (fun l => l[0]?) h4
        simpa using this
      simp [World.cell?, h2, this]
  have kt : kb ≠ tb := own_ne hK hT (by decide) kb rfl
  have HT := hid hT
  have HK := hid hK
  have H1 := hid (And.intro he ht)
  have HF := hid hF
  clear hE hT o28 o29 o42 he ht hK hF
  have lt1 : tb < w.heap.size + 1 := by omega
  have lk : kb < w.heap.size := (own_ty HK.out kb rfl).2.1
  have lk1 : kb < w.heap.size + 1 := by omega
  obtain ⟨v1, v2⟩ := v
  go_enter Tryz.func107, Tryz.ntmps107
  go_wp2_with fail
  refine (top_any tb kb ck fb _ (by simp [go_sem, lt, c1]) (by simp [go_sem, lk, k0])).mono ?_
  rintro e w1 ⟨rfl, hg1⟩
  have hz1 := hg1.size
  simp at hz1
  have b0 := grown_heap hg1 (show (w.alloc (.cells #[.int .i64 (v1 : Int), .int .i64 v2] 149)).heap[w.heap.size]? = _ from heap_alloc_new w _) (by intro e; cases e)
  have KG : Hid (w.grownBy w1 none) := grown_trans (World.grownBy_alloc _ _ _) hg1
  have hbk : ∀ k, k < w.heap.size → w1.heap[k]? = w.heap[k]? := fun k hk => KG.out.block k hk (by intro e; cases e)
  have HL1 := hid (HL.out.alloc KG.out)
  have HT1 := hid (HT.out.block (hbk tb lt))
  have HK1 := hid (own_of HK.out (fun k h => hbk k (own_ty HK.out k h).2.1))
  have HF1 := hid ((hbk fb (heap_lt HF.out)).trans HF.out)
  have HX1 := hid (And.intro ((hbk xe (heap_lt H1.out.1)).trans H1.out.1) ((hbk xt (heap_lt H1.out.2)).trans H1.out.2))
  have p0 : w1.cell? ⟨w.heap.size, 0, none⟩ = some (.int .i64 (v1 : Int)) := by simp [World.cell?, b0]
  have p1 : w1.cell? ⟨w.heap.size, 1, none⟩ = some (.int .i64 v2) := by simp [World.cell?, b0]
  have c1' := HT1.out.cell 1 (by omega)
  rw [hT1] at c1'
  have lw : w.heap.size < w1.heap.size := by omega
  have lt2 : tb < w1.heap.size := by omega
  clear hg1 hbk c1 z1 k0 lk lk1 lt1
  go_wp2_with fail
  go_cut [] from 7 to 25 (fun wx => ∃ w2 : World, wx = w2.setCell ⟨tb, 1, none⟩ (.slice (some ⟨kb, 0, none⟩) 0 ck) ∧ Hid (w1.grownBy w2 (some kb)))
  case first =>
    go_region_with (go_at_call 165; refine (fdelete_any kb ck fb 0 w1.drew (own_of HK1.out (fun _ _ => rfl))).mono ?_; rintro e w2 ⟨rfl, _, hg2⟩; have HG2 : Hid (w1.grownBy w2 (some kb)) := ⟨hg2.os, hg2.tape, hg2.output, hg2.size, hg2.block⟩; have HT2 := hid (HT1.out.kept HG2.out (fun e => kt e.symm)); obtain ⟨d1, e1⟩ := HT2.out.cells 1 (by omega); have lt3 := HT2.out.lt; clear hg2)
    all_goals
      rw [hT1] at d1
      go_wp2_with fail
      go_meet
      case rel => exact ⟨w2, rfl, HG2⟩
  case rest =>
    obtain ⟨w2, rfl, HG2⟩ := hcut
    have hz2 := HG2.out.size
    have HG3 : Hid (Only (fun k => k = tb ∨ k = kb) w (w2.setCell ⟨tb, 1, none⟩ (.slice (some ⟨kb, 0, none⟩) 0 ck))) :=
      only_setCell ((only_none KG.out).then HG2.out (Or.inl (Or.inr rfl))) (Or.inl (Or.inl rfl)) _
    generalize hw3 : w2.setCell ⟨tb, 1, none⟩ (.slice (some ⟨kb, 0, none⟩) 0 ck) = w3 at *
    have hz3 : w3.heap.size = w2.heap.size := by rw [← hw3]; simp [World.setCell]
    have hb3 : ∀ k, k ≠ tb → k ≠ kb → k < w1.heap.size → w3.heap[k]? = w1.heap[k]? := by
      intro k h1 h2 h3
      rw [← hw3, Below.heap_setCell _ _ _ _ h1]
      exact HG2.out.block k h3 (by intro e; injection e with e; exact h2 e)
    have HT3 : Hid (Full w3 tb 160 7 7 (upd Tk 1 (.slice (some ⟨kb, 0, none⟩) 0 ck))) := by
      show Full _ _ _ _ _ _
      rw [← hw3]
      exact (HT1.out.kept HG2.out (fun e => kt e.symm)).upd 1 _
    have hty : ∀ {k : Nat} {cur : Array Value} {T : TypeId}, w1.heap[k]? = some (.cells cur T (0, 0)) → T ≠ 184 → T ≠ 160 → w3.heap[k]? = w1.heap[k]? := by
      intro k cur T hk h1 h2
      refine hb3 k ?_ ?_ (heap_lt hk)
      · rintro rfl
        obtain ⟨cur', h', _⟩ := HT1.out
        rw [hk] at h'; injection h' with h'; injection h' with _ h' _; exact h2 h'
      · rintro rfl
        obtain ⟨_, _, cur', h'⟩ := own_ty HK1.out k rfl
        rw [hk] at h'; injection h' with h'; injection h' with _ h' _; exact h1 h'
    have HL3 : Hid (Leav w3 eb tb lb cl ob co base ad n cap ev E (upd Tk 1 (.slice (some ⟨kb, 0, none⟩) 0 ck))) := by
      obtain ⟨hE, _, h28, o28, h29, o29, h30, h42, o42, t0, t3, t6, hb, hn⟩ := HL1.out
      refine ⟨?_, HT3.out, h28, own_of o28 (fun k h => ?_), h29, own_of o29 (fun k h => ?_), h30, h42, own_of o42 (fun k h => ?_), ?_, ?_, ?_, by omega, hn⟩
      · obtain ⟨cur, h1, h2⟩ := hE
        exact ⟨cur, (hty h1 (by decide) (by decide)).trans h1, h2⟩
      · obtain ⟨_, _, cur, h1⟩ := own_ty o28 k h; exact hty h1 (by decide) (by decide)
      · obtain ⟨_, _, cur, h1⟩ := own_ty o29 k h; exact hty h1 (by decide) (by decide)
      · obtain ⟨_, _, cur, h1⟩ := own_ty o42 k h; exact hty h1 (by decide) (by decide)
      · rw [upd_off _ _ _ _ (by omega)]; exact t0
      · rw [upd_off _ _ _ _ (by omega)]; exact t3
      · rw [upd_off _ _ _ _ (by omega)]; exact t6
    have f3 : w3.heap[fb]? = some (frmB cb L nx rb nr (Fv 120 #[P0 xe, P0 xt])) := (hty HF1.out (by decide) (by decide)).trans HF1.out
    obtain ⟨_, _, _, f3', _⟩ := frm_cells f3
    have lf := heap_lt f3
    have b3 : w3.heap[w.heap.size]? = some (.cells #[.int .i64 (v1 : Int), .int .i64 v2] 149 (0, 0)) := (hty b0 (by decide) (by decide)).trans b0
    have p0' : w3.cell? ⟨w.heap.size, 0, none⟩ = some (.int .i64 (v1 : Int)) := by simp [World.cell?, b3]
    have p1' : w3.cell? ⟨w.heap.size, 1, none⟩ = some (.int .i64 v2) := by simp [World.cell?, b3]
    have ee : w3.heap[xe]? = some (.cells #[P0 eb] 95 (0, 0)) := (hty HX1.out.1 (by decide) (by decide)).trans HX1.out.1
    have et : w3.heap[xt]? = some (.cells #[P0 tb] 155 (0, 0)) := (hty HX1.out.2 (by decide) (by decide)).trans HX1.out.2
    have EE := hid ee
    have ET := hid et
    have lw3 : w.heap.size < w3.heap.size := by omega
    clear hw3 hb3 hty f3 b3 b0 p0 p1 c1' ee et HL1 HT1 HK1 HF1 HX1 KG
    go_wp2_with fail
    go_region_with (go_at_call 120; refine (begin1_any eb tb lb cl ob co base xe xt (v1, v2) ad n cap ev E _ w3.drew (HL3.out.alloc (grown_drew (grown_refl _ _))) (by show w3.cell? _ = _; simp [World.cell?, EE.out]) (by show w3.cell? _ = _; simp [World.cell?, ET.out]) (heap_lt EE.out) (heap_lt ET.out)).mono ?_; rintro e w4 ⟨rfl, hL4⟩; have HL4 := hid (Left.pre (grown_drew (grown_refl w3 none)) hL4); clear hL4)
    all_goals
      go_wp2_with fail
      go_end0
      exact ⟨rfl, w3, HL4.out, HG3.out⟩
end Go.Proofs.YtnjiinbhbjpfkaaGreatDoor

/-
  What the closures of the table do: those whose a is a value that can always be told, and those that go on elsewhere.
-/
namespace Go.Proofs.YtnjiinbhbjpfkaaGreatDoor
open Go.RowKit

/-- The block of a step. -/
abbrev stpB (op a b c fb tb eb : Nat) : Obj := .cells #[.int .u8 op, .int .u8 a, .int .u8 b, .int .u8 c, P0 fb, P0 tb, P0 eb] 186 (0, 0)
theorem s7_of {w' : World} {sb op a b c fb tb eb : Nat} (h : w'.heap[sb]? = some (stpB op a b c fb tb eb)) : w'.cell? ⟨sb, 0, none⟩ = some (.int .u8 op) ∧ w'.cell? ⟨sb, 1, none⟩ = some (.int .u8 a) ∧ w'.cell? ⟨sb, 2, none⟩ = some (.int .u8 b) ∧ w'.cell? ⟨sb, 3, none⟩ = some (.int .u8 c) ∧ w'.cell? ⟨sb, 4, none⟩ = some (P0 fb) ∧ w'.cell? ⟨sb, 5, none⟩ = some (P0 tb) ∧ w'.cell? ⟨sb, 6, none⟩ = some (P0 eb) := by
  simp [World.cell?, h]
theorem s7_new (w : World) (op a b c fb tb eb : Nat) : (w.alloc (.cells #[.int .u8 op, .int .u8 a, .int .u8 b, .int .u8 c, P0 fb, P0 tb, P0 eb] 186)).heap[w.heap.size]? = some (stpB op a b c fb tb eb) := heap_alloc_new w _
theorem grown_out {w w' : World} (h : w.grownBy w' none) {k : Nat} {o : Obj} (hk : w.heap[k]? = some o) : w'.heap[k]? = some o := grown_heap h hk (by intro e; cases e)

theorem oneIf_any (x : Bool) (w : World) : Calls Tryz.prog 92 #[.bool x] w fun e w' => e = .returned (.int .i64 (if x = true then 1 else 0)) ∧ w' = w := by
  cases x
  · go_enter Tryz.func92, Tryz.ntmps92
    go_wp2_with fail
    go_ret
    exact ⟨rfl, rfl⟩
  · go_enter Tryz.func92, Tryz.ntmps92
    go_wp2_with fail
    go_ret
    exact ⟨rfl, rfl⟩


/-- Values are compared whole. -/
theorem eqV (x y : B.V) (w : World) : (binOp .eql 149 (vA x) (vA y)).run Tryz.prog w = .ok (.bool (decide (x = y))) w := by
  obtain ⟨x1, x2⟩ := x
  obtain ⟨y1, y2⟩ := y
  have h1 : ((x1 : Int) = (y1 : Int)) ↔ x1 = y1 := by omega
  simp [go_sem]
  by_cases k1 : x1 = y1 <;> by_cases k2 : x2 = y2 <;> simp [k1, k2, h1]

set_option maxRecDepth 100000 in
set_option maxHeartbeats 2000000 in
/-- Same's value. -/
theorem same_any (op a b c fb tb eb cb L nx rb nr : Nat) (back : Value) (R : Nat → B.V) (hb : b < nr) (hc : c < nr) (w : World) (hF : Fr w fb cb L nx rb nr back R) :
    Calls Tryz.prog 93 #[stepV op a b c fb tb eb] w fun e w' => e = .returned (vA (0, if R b = R c then 1 else 0)) ∧ w.grownBy w' none := by
  have KF := hid hF
  clear hF
  have heq := eqV (R b) (R c)
  have h01 : (if decide (R b = R c) = true then (1 : Int) else 0) = (if R b = R c then 1 else 0) := by by_cases h : R b = R c <;> simp [h]
  rw [← h01]
  clear h01
  generalize decide (R b = R c) = d at *
  generalize hy : (if d = true then (1 : Int) else 0) = y
  have HY := hid hy
  clear hy
  go_enter Tryz.func93, Tryz.ntmps93
  go_wp2_with fail
  generalize hW : (w.alloc (.cells #[.int .u8 (op : Int), .int .u8 (a : Int), .int .u8 (b : Int), .int .u8 (c : Int), P0 fb, P0 tb, P0 eb] 186)).alloc (.cells #[.int .i64 0, .int .i64 0] 149) = w1
  have KG1 : Hid (w.grownBy w1 none) := by rw [← hW]; exact grown_alloc (World.grownBy_alloc _ _ _) _
  have hx : w1.heap[w.heap.size]? = some (stpB op a b c fb tb eb) := by rw [← hW, Below.heap_alloc _ _ _ (by simp)]; exact heap_alloc_new w _
  have hr : w1.heap[w.heap.size + 1]? = some (.cells #[.int .i64 0, .int .i64 0] 149 (0, 0)) := by
    rw [← hW]
    have := heap_alloc_new (w.alloc (.cells #[.int .u8 (op : Int), .int .u8 (a : Int), .int .u8 (b : Int), .int .u8 (c : Int), P0 fb, P0 tb, P0 eb] 186)) (.cells #[.int .i64 0, .int .i64 0] 149)
    simpa using this
  clear hW
  have HX := hid hx
  have HR := hid hr
  clear hx hr
  obtain ⟨x0, x1, x2, x3, x4, x5, x6⟩ := s7_of HX.out
  have lx := heap_lt HX.out
  have lr := heap_lt HR.out
  go_region_with (first
      | (go_at_call 86; refine (b_any op a b c fb tb eb cb L nx rb nr back R w1.drew (KF.out.kept KG1.out).1 (KF.out.kept KG1.out).2.1 hb).mono ?_; rintro e w2 ⟨rfl, hg2⟩; have HG2 : Hid (w1.grownBy w2 none) := ⟨hg2.os, hg2.tape, hg2.output, hg2.size, hg2.block⟩; clear hg2; obtain ⟨x0, x1, x2, x3, x4, x5, x6⟩ := s7_of (grown_out HG2.out HX.out); have lx2 := heap_lt (grown_out HG2.out HX.out))
      | (go_at_call 94; refine (c_any op a b c fb tb eb cb L nx rb nr back R w2 (KF.out.kept (grown_trans KG1.out HG2.out)).1 (KF.out.kept (grown_trans KG1.out HG2.out)).2.1 hc).mono ?_; rintro e w3 ⟨rfl, hg3⟩; have HG3 : Hid (w1.grownBy w3 none) := grown_trans HG2.out hg3; clear hg3; have hr3 := grown_out HG3.out HR.out; have r0 : w3.cell? ⟨w.heap.size + 1, 0, none⟩ = some (.int .i64 0) := (by simp [World.cell?, hr3]); have r1 : w3.cell? ⟨w.heap.size + 1, 1, none⟩ = some (.int .i64 0) := (by simp [World.cell?, hr3]); have r2 : w3.frozen? ⟨w.heap.size + 1, 0, none⟩ = false := (by simp [World.frozen?, hr3]); have r3 : w3.frozen? ⟨w.heap.size + 1, 1, none⟩ = false := (by simp [World.frozen?, hr3]); have lr3 := heap_lt hr3; clear hr3)
      | (go_at_call 92; refine (oneIf_any d w3).mono ?_; rw [HY.out]; rintro e w4 ⟨rfl, rfl⟩)
      | (go_at_call 61; refine (number_any y _).mono ?_; rintro e w5 ⟨rfl, rfl⟩))
  all_goals
    go_wp2_with fail
    refine bodyPost_ret (v := vA (0, y)) (by simp [results, Tryz.results93, go_sem, lr3, r0, r1]) rfl ⟨rfl, ?_⟩
    exact grown_alloc (grown_setCell (grown_setCell (grown_trans KG1.out HG3.out) (Or.inr (by simp)) _) (Or.inr (by simp)) _) _

end Go.Proofs.YtnjiinbhbjpfkaaGreatDoor

/-
  A task is made, and laid at the end of the queue.
-/
namespace Go.Proofs.YtnjiinbhbjpfkaaGreatDoor
open Go.RowKit

/-- What the first task's making leaves. -/
def Begun (w w' : World) (eb s0 c0 r0 : Nat) (E : Nat → Value) : Prop :=
  ∃ tb kb ck fb rb lb cl ob co qb cq xe xt, w.heap.size ≤ tb ∧ w.heap.size ≤ fb ∧ w.heap.size ≤ rb ∧ w.heap.size ≤ xe ∧ w.heap.size ≤ xt ∧
    w'.heap[xe]? = some (.cells #[P0 eb] 95 (0, 0)) ∧ w'.heap[xt]? = some (.cells #[P0 tb] 155 (0, 0)) ∧ xt ≠ lb ∧ xt ≠ qb ∧ lb ≠ qb ∧ rb ≠ ob ∧
    Full w' eb 144 44 44 (upd (upd (upd E 30 (.slice (some ⟨ob, 0, none⟩) 1 co)) 29 (.slice (some ⟨lb, 0, none⟩) 1 cl)) 32 (.slice (some ⟨qb, 0, none⟩) 1 cq)) ∧
    w'.ownsRow w.heap.size 149 2 (.slice (some ⟨ob, 0, none⟩) 1 co) 1 [.int .i64 0, .int .i64 0] ∧ w'.ownsRow w.heap.size 155 1 (.slice (some ⟨lb, 0, none⟩) 1 cl) 1 [P0 tb] ∧ w'.ownsRow w.heap.size 155 1 (.slice (some ⟨qb, 0, none⟩) 1 cq) 1 [P0 tb] ∧ w'.ownsRow w.heap.size 184 1 (.slice (some ⟨kb, 0, none⟩) 1 ck) 1 [P0 fb] ∧
    Fr w' fb s0 c0 0 rb r0 (Fv 120 #[P0 xe, P0 xt]) (fun _ => (0, 0)) ∧
    ∃ Tk, Full w' tb 160 7 7 Tk ∧ Tk 0 = .int .i64 1 ∧ Tk 1 = .slice (some ⟨kb, 0, none⟩) 1 ck ∧ Tk 2 = .bool false ∧ Tk 3 = Pt eb 32 ∧ Tk 6 = .slice none 0 0

set_option maxRecDepth 100000 in
set_option maxHeartbeats 4000000 in
theorem begin_any (eb g nf s0 c0 r0 : Nat) (E : Nat → Value) (w : World) (hE : Full w eb 144 44 44 E) (h0 : E 0 = .slice (some ⟨g, 0, none⟩) nf nf) (h1 : w.cell? ⟨g, 0, none⟩ = some (.int .i64 r0)) (h2 : w.cell? ⟨g, 1, none⟩ = some (.slice (some ⟨s0, 0, none⟩) c0 c0))
    (h28 : E 29 = .slice none 0 0) (h29 : E 30 = .slice none 0 0) (h31 : E 32 = .slice none 0 0) (hg : g < w.heap.size) (hge : g ≠ eb) (hn : 1 ≤ nf) (hr : 2 ≤ r0) (hr2 : r0 ≤ 8) :
    Calls Tryz.prog 60 #[P0 eb, .int .i64 0, vA (0, 0), vA (0, 0)] w fun e w' => (∃ x, e = .returned (.int .i64 x)) ∧ w.grownBy w' (some eb) ∧ Begun w w' eb s0 c0 r0 E := by
  have le := hE.lt
  have KE := hid hE
  have HF := hid (And.intro h0 (And.intro h28 (And.intro h29 h31)))
  have HG := hid (And.intro h1 h2)
  clear hE h0 h1 h2 h28 h29 h31
  obtain ⟨i0, hi, hz0, hz1, hz2⟩ := info_parts Tryz.info149
  go_enter Tryz.func60, Tryz.ntmps60
  go_wp2_with fail
  generalize hW : ((w.alloc (.cells #[P0 eb] 95)).alloc (.cells #[.int .i64 0, .int .i64 0] 149)).alloc (.cells #[.int .i64 0, .int .i64 0] 149) = w1
  have hz1' : w1.heap.size = w.heap.size + 1 + 1 + 1 := by rw [← hW]; simp
  have KG1 : Hid (w.grownBy w1 none) := by rw [← hW]; repeat (first | exact grown_refl _ _ | refine grown_alloc ?_ _)
  have x0 : w1.heap[w.heap.size]? = some (.cells #[P0 eb] 95 (0, 0)) := by rw [← hW, Below.heap_alloc _ _ _ (by simp; omega), Below.heap_alloc _ _ _ (by simp)]; exact heap_alloc_new _ _
  have x1 : w1.heap[w.heap.size + 1]? = some (.cells #[.int .i64 0, .int .i64 0] 149 (0, 0)) := by
    rw [← hW, Below.heap_alloc _ _ _ (by simp)]
    have := heap_alloc_new (w.alloc (.cells #[P0 eb] 95)) (.cells #[.int .i64 0, .int .i64 0] 149)
    simpa using this
  have x2 : w1.heap[w.heap.size + 1 + 1]? = some (.cells #[.int .i64 0, .int .i64 0] 149 (0, 0)) := by
    rw [← hW]
    have := heap_alloc_new ((w.alloc (.cells #[P0 eb] 95)).alloc (.cells #[.int .i64 0, .int .i64 0] 149)) (.cells #[.int .i64 0, .int .i64 0] 149)
    simpa using this
  clear hW
  have HX := hid (And.intro x0 (And.intro x1 x2))
  have b0 : w1.cell? ⟨w.heap.size, 0, none⟩ = some (P0 eb) := by simp [World.cell?, x0]
  have KE1 := hid (KE.out.block (KG1.out.block eb le (by intro e; cases e)))
  obtain ⟨c29, z29⟩ := KE1.out.cells 30 (by omega)
  rw [HF.out.2.2.1] at c29
  have le1 := KE1.out.lt
  have lb1 : w.heap.size < w1.heap.size := by omega
  have HZ1 := hid hz1'
  clear hz1' x0 x1 x2
  go_cut [] from 10 to 19 (fun wx => ∃ (ob co : Nat) (w2 : World), wx = w2.setCell ⟨eb, 30, none⟩ (.slice (some ⟨ob, 0, none⟩) 1 co) ∧ Hid (w2.ownsRow w.heap.size 149 2 (.slice (some ⟨ob, 0, none⟩) 1 co) 1 [.int .i64 0, .int .i64 0]) ∧ Hid (w1.grownBy w2 none))
  case first =>
    go_region_law (first | (refine step_append_own rfl (.tmp 14) (.tmp 16) 137 rfl w.heap.size 149 i0 _ 2 16 Tryz.underlying137 hi hz0 hz1 hz2 rfl (by decide) (.slice none 0 0) 0 [] (by first | rfl | simp [Act.eval, Act.put]) (World.ownsRow_nil _ _ _ _) ⟨w3.heap.size, 0, none⟩ 1 1 [.int .i64 0, .int .i64 0] (by first | rfl | simp [Act.eval, Act.put]) rfl (by intro j u hj; match j, hj with | 0, hj => (simp at hj; subst hj; simp [Addr.add, go_sem]) | 1, hj => (simp at hj; subst hj; simp [Addr.add, go_sem])) (by simp [Value.oneCell']) (by unfold maxLen; omega) (by omega) (by simp; have := HG3.out.size; omega) ?_; intro v' w6 ho hg; obtain ⟨ob, co, rfl⟩ := row_form ho (by omega); have HO6 := hid ho; have HG6 : Hid (w1.grownBy w6 none) := ⟨hg.os.trans HG3.out.os, hg.tape.trans HG3.out.tape, hg.output.trans HG3.out.output, by (have h1 := hg.size; have h2 := HG3.out.size; simp at h1; omega), fun x hx hn => (hg.block x (by (have := HG3.out.size; simp; omega)) hn).trans ((Below.heap_alloc _ _ _ (by have := HG3.out.size; omega)).trans (HG3.out.block x hx hn))⟩; have KE6 := hid (KE1.out.block (HG6.out.block eb le1 (by intro e; cases e))); obtain ⟨d29, e29⟩ := KE6.out.cells 30 (by omega); have le6 := KE6.out.lt; obtain ⟨b0', _⟩ := grown_cell HG6.out (a := ⟨w.heap.size, 0, none⟩) lb1; have lb6 : w.heap.size < w6.heap.size := (by have := HG6.out.size; omega); clear ho hg) | (go_simp; go_at_call 61; refine (number_any 0 w1.drew).mono ?_; rintro e w3 ⟨rfl, hw3⟩; have HG3 : Hid (w1.grownBy w3 none) := (by subst hw3; exact grown_alloc (grown_drew (grown_refl _ _)) _); obtain ⟨c29', _⟩ := grown_cell HG3.out (a := ⟨eb, 30, none⟩) le1; rw [c29] at c29'; obtain ⟨b0', _⟩ := grown_cell HG3.out (a := ⟨w.heap.size, 0, none⟩) lb1; rw [b0] at b0'; have le3 : eb < w3.heap.size := (by have := HG3.out.size; omega); have lb3 : w.heap.size < w3.heap.size := (by have := HG3.out.size; omega); clear hw3; simp only []))
    all_goals
      rw [b0] at b0'
      generalize E 30 = y29 at d29
      go_wp2_with fail
      go_meet
      case rel => exact ⟨ob, co, w6, rfl, HO6, HG6⟩
  case rest =>
    obtain ⟨ob, co, w2, rfl, HO2, HG2⟩ := hcut
    have KE2 := hid (KE1.out.block (HG2.out.block eb le1 (by intro e; cases e)))
    have hz2' := HG2.out.size
    generalize hw3 : w2.setCell ⟨eb, 30, none⟩ (.slice (some ⟨ob, 0, none⟩) 1 co) = w3 at *
    have hz3 : w3.heap.size = w2.heap.size := by rw [← hw3]; simp [World.setCell]
    have hb3 : ∀ k, k ≠ eb → w3.heap[k]? = w2.heap[k]? := fun k hk => by rw [← hw3]; exact Below.heap_setCell _ _ _ _ hk
    have KE3 : Hid (Full w3 eb 144 44 44 (upd E 30 (.slice (some ⟨ob, 0, none⟩) 1 co))) := by show Full _ _ _ _ _ _; rw [← hw3]; exact KE2.out.upd 30 _
    have KG3 : Hid (w.grownBy w3 (some eb)) := by rw [← hw3]; exact grown_setCell (grown_of_none (grown_trans KG1.out HG2.out)) (Or.inl rfl) _
    have HO3 := hid (own_of HO2.out (fun k h => hb3 k (own_ne HO2.out KE2.out (by decide) k h)))
    have y0 := (hb3 w.heap.size (by omega)).trans (grown_heap HG2.out HX.out.1 (by intro e; cases e))
    have y1 := (hb3 (w.heap.size + 1) (by omega)).trans (grown_heap HG2.out HX.out.2.1 (by intro e; cases e))
    have y2 := (hb3 (w.heap.size + 1 + 1) (by omega)).trans (grown_heap HG2.out HX.out.2.2 (by intro e; cases e))
    have HY := hid (And.intro y0 (And.intro y1 y2))
    have b0 : w3.cell? ⟨w.heap.size, 0, none⟩ = some (P0 eb) := by simp [World.cell?, y0]
    have lb3 := heap_lt y0
    have le3 := KE3.out.lt
    have c29' := KE3.out.cell 30 (by omega)
    rw [upd_at] at c29'
    have hle3 : w.heap.size + 1 + 1 + 1 ≤ w3.heap.size := by have := HZ1.out; omega
    clear hw3 hb3 y0 y1 y2 c29 z29 hz3 hz2' KE1 KE2 HG2 HO2 HX lb1 le1 KG1 HZ1
    go_wp2_with fail
    generalize hw4 : (w3.alloc (.cells #[.int .i64 1, .slice none 0 0, .bool false, .pointer none, .nilFunc, .int .i64 0, .slice none 0 0] 160)).alloc (.cells #[.pointer (some ⟨w3.heap.size, 0, none⟩)] 155) = w4
    have KG34 : Hid (w3.grownBy w4 none) := by rw [← hw4]; exact grown_alloc (World.grownBy_alloc _ _ _) _
    have ht4 : w4.heap[w3.heap.size]? = some (.cells #[.int .i64 1, .slice none 0 0, .bool false, .pointer none, .nilFunc, .int .i64 0, .slice none 0 0] 160 (0, 0)) := by rw [← hw4, Below.heap_alloc _ _ _ (by simp)]; exact heap_alloc_new _ _
    have hx4 : w4.heap[w3.heap.size + 1]? = some (.cells #[.pointer (some ⟨w3.heap.size, 0, none⟩)] 155 (0, 0)) := by
      rw [← hw4]
      have := heap_alloc_new (w3.alloc (.cells #[.int .i64 1, .slice none 0 0, .bool false, .pointer none, .nilFunc, .int .i64 0, .slice none 0 0] 160)) (.cells #[.pointer (some ⟨w3.heap.size, 0, none⟩)] 155)
      simpa using this
    have hz4 : w4.heap.size = w3.heap.size + 1 + 1 := by rw [← hw4]; simp
    clear hw4
    generalize htb : w3.heap.size = tb at *
    have HT4 : Hid (Full w4 tb 160 7 7 (fun j => #[.int .i64 1, .slice none 0 0, .bool false, .pointer none, .nilFunc, .int .i64 0, .slice none 0 0].getD j undef)) := by
      refine ⟨_, ht4, rfl, fun j hj => ?_⟩
      have : j = 0 ∨ j = 1 ∨ j = 2 ∨ j = 3 ∨ j = 4 ∨ j = 5 ∨ j = 6 := by omega
      rcases this with h | h | h | h | h | h | h <;> subst h <;> rfl
    generalize hTk : (fun j => (#[.int .i64 1, .slice none 0 0, .bool false, .pointer none, .nilFunc, .int .i64 0, .slice none 0 0] : Array Value).getD j undef) = Tk at *
    have HTk : Hid (Tk 0 = .int .i64 1 ∧ Tk 1 = .slice none 0 0 ∧ Tk 3 = .pointer none ∧ Tk 6 = .slice none 0 0) := by rw [← hTk]; exact ⟨rfl, rfl, rfl, rfl⟩
    have HX4 := hid hx4
    have KE4 := hid (KE3.out.block (KG34.out.block eb (by omega) (by intro e; cases e)))
    have HO4 := hid (own_of HO3.out (fun k h => KG34.out.block k (own_ty HO3.out k h).2.1 (by intro e; cases e)))
    have KG4 := hid (grown_trans KG3.out (grown_of_none KG34.out))
    have HY4 := hid (And.intro (grown_out KG34.out HY.out.1) (And.intro (grown_out KG34.out HY.out.2.1) (grown_out KG34.out HY.out.2.2)))
    have b04 : w4.cell? ⟨w.heap.size, 0, none⟩ = some (P0 eb) := by simp [World.cell?, HY4.out.1]
    have bt4 : w4.cell? ⟨tb + 1, 0, none⟩ = some (P0 tb) := by simp [World.cell?, hx4]
    have lw4 := heap_lt HY4.out.1
    have lx4 := heap_lt hx4
    obtain ⟨c28, z28⟩ := KE4.out.cells 29 (by omega)
    rw [upd_off _ _ _ _ (by omega), HF.out.2.1] at c28
    have le4 := KE4.out.lt
    have HZ4 := hid (And.intro hz4 htb)
    clear hTk ht4 hx4 b0 lb3 le3 c29' KG34 HO3 KE3 KG3 HY hz4 htb hi hz0 hz1 hz2 i0
    obtain ⟨j0, hj, hy0, hy1, hy2⟩ := info_parts Tryz.info155
    go_cut [] from 27 to 36 (fun wx => ∃ (lb cl : Nat) (w5 : World), wx = w5.setCell ⟨eb, 29, none⟩ (.slice (some ⟨lb, 0, none⟩) 1 cl) ∧ Hid (w5.ownsRow w4.heap.size 155 1 (.slice (some ⟨lb, 0, none⟩) 1 cl) 1 [P0 tb]) ∧ Hid (w4.grownBy w5 none))
    case first =>
      go_region_law (refine step_append_own rfl (.tmp 31) (.tmp 33) 136 rfl w4.heap.size 155 j0 _ 1 8 Tryz.underlying136 hj hy0 hy1 hy2 rfl (by decide) (.slice none 0 0) 0 [] (by first | rfl | simp [Act.eval, Act.put]) (World.ownsRow_nil _ _ _ _) ⟨w4.heap.size, 0, none⟩ 1 1 [P0 tb] (by first | rfl | simp [Act.eval, Act.put]) rfl (by intro j u hj; match j, hj with | 0, hj => (simp at hj; subst hj; simp [Addr.add, go_sem])) (by simp [Value.oneCell']) (by unfold maxLen; omega) (by omega) (by simp) ?_; intro v' w6 ho hg; obtain ⟨lb, cl, rfl⟩ := row_form ho (by omega); have HO6 := hid ho; have HG6 : Hid (w4.grownBy w6 none) := ⟨hg.os, hg.tape, hg.output, by (have h1 := hg.size; simp at h1; omega), fun x hx hn => (hg.block x (by simp; omega) hn).trans (Below.heap_alloc _ _ _ hx)⟩; have KE6 := hid (KE4.out.block (HG6.out.block eb le4 (by intro e; cases e))); obtain ⟨d28, e28⟩ := KE6.out.cells 29 (by omega); have le6 := KE6.out.lt; obtain ⟨b06, _⟩ := grown_cell HG6.out (a := ⟨w.heap.size, 0, none⟩) lw4; have lw6 : w.heap.size < w6.heap.size := (by have := HG6.out.size; omega); clear ho hg)
      all_goals
        rw [b04] at b06
        generalize (upd E 30 (.slice (some ⟨ob, 0, none⟩) 1 co)) 29 = y28 at d28
        go_wp2_with fail
        go_meet
        case rel => exact ⟨lb, cl, w6, rfl, HO6, HG6⟩
    case rest =>
      obtain ⟨lb, cl, w5, rfl, HO5, HG5⟩ := hcut
      have KE5 := hid (KE4.out.block (HG5.out.block eb le4 (by intro e; cases e)))
      have hz5 := HG5.out.size
      generalize hw6 : w5.setCell ⟨eb, 29, none⟩ (.slice (some ⟨lb, 0, none⟩) 1 cl) = w6 at *
      have hz6 : w6.heap.size = w5.heap.size := by rw [← hw6]; simp [World.setCell]
      have hb6 : ∀ k, k ≠ eb → w6.heap[k]? = w5.heap[k]? := fun k hk => by rw [← hw6]; exact Below.heap_setCell _ _ _ _ hk
      have KE6 : Hid (Full w6 eb 144 44 44 (upd (upd E 30 (.slice (some ⟨ob, 0, none⟩) 1 co)) 29 (.slice (some ⟨lb, 0, none⟩) 1 cl))) := by show Full _ _ _ _ _ _; rw [← hw6]; exact KE5.out.upd 29 _
      have KG6 : Hid (w.grownBy w6 (some eb)) := by rw [← hw6]; exact grown_setCell (grown_trans KG4.out (grown_of_none HG5.out)) (Or.inl rfl) _
      have hk6 : ∀ {k : Nat} {cur : Array Value} {T : TypeId}, w4.heap[k]? = some (.cells cur T (0, 0)) → T ≠ 144 → w6.heap[k]? = some (.cells cur T (0, 0)) := by
        intro k cur T hk hT
        have hne : k ≠ eb := by
          obtain ⟨c1, h1, _⟩ := KE4.out
          exact fun e => hT (by subst e; rw [h1] at hk; injection hk with hk; injection hk with _ hk _; exact hk.symm)
        exact (hb6 k hne).trans (grown_out HG5.out hk)
      have HL6 := hid (own_of HO5.out (fun k h => hb6 k (own_ne HO5.out KE5.out (by decide) k h)))
      have HO6 : Hid (w6.ownsRow w.heap.size 149 2 (.slice (some ⟨ob, 0, none⟩) 1 co) 1 [.int .i64 0, .int .i64 0]) := own_of HO4.out (fun k h => by
        obtain ⟨_, _, cur, hc⟩ := own_ty HO4.out k h
        exact (hk6 hc (by decide)).trans hc.symm)
      have HX6 := hid (hk6 HX4.out (by decide))
      have HY6 := hid (And.intro (hk6 HY4.out.1 (by decide)) (And.intro (hk6 HY4.out.2.1 (by decide)) (hk6 HY4.out.2.2 (by decide))))
      have HT6 : Hid (Full w6 tb 160 7 7 Tk) := by
        obtain ⟨cur, h1, h2⟩ := HT4.out
        exact ⟨cur, hk6 h1 (by decide), h2⟩
      have p0 : w6.cell? ⟨w.heap.size, 0, none⟩ = some (P0 eb) := by simp [World.cell?, HY6.out.1]
      have p1 : w6.cell? ⟨tb + 1, 0, none⟩ = some (P0 tb) := by simp [World.cell?, HX6.out]
      have p2 : w6.cell? ⟨w.heap.size + 1, 0, none⟩ = some (.int .i64 0) := by simp [World.cell?, HY6.out.2.1]
      have p3 : w6.cell? ⟨w.heap.size + 1, 1, none⟩ = some (.int .i64 0) := by simp [World.cell?, HY6.out.2.1]
      have p4 : w6.cell? ⟨w.heap.size + 1 + 1, 0, none⟩ = some (.int .i64 0) := by simp [World.cell?, HY6.out.2.2]
      have p5 : w6.cell? ⟨w.heap.size + 1 + 1, 1, none⟩ = some (.int .i64 0) := by simp [World.cell?, HY6.out.2.2]
      have g0 := KG6.out.cell HG.out.1 (by intro e; injection e with e; exact hge e)
      have g1 := KG6.out.cell HG.out.2 (by intro e; injection e with e; exact hge e)
      have lp0 := heap_lt HY6.out.1
      have lp1 := heap_lt HX6.out
      have lp2 := heap_lt HY6.out.2.1
      have lp4 := heap_lt HY6.out.2.2
      have le6 := KE6.out.lt
      have e0 := KE6.out.cell 0 (by omega)
      rw [upd_off _ _ _ _ (by omega), upd_off _ _ _ _ (by omega), HF.out.1] at e0
      have lg6 : g < w6.heap.size := by have := KG6.out.size; omega
      have hllb := (own_ty HL6.out lb rfl).1
      clear hw6 hb6 hk6 hz6 b04 bt4 lw4 lx4 c28 z28 le4 HO4 HO5 KE4 KE5 HG5 HX4 HY4 HT4 KG4 hj hy0 hy1 hy2 j0
      go_wp2_with fail
      refine (enter_any eb tb g nf s0 c0 r0 _ _ _ Tk w6 e0 g0 g1 HT6.out HTk.out.2.1 le6 lg6 hn hr hr2).mono ?_
      rintro e w7 ⟨rfl, hg7, kb, ck, fb, rb, hT7, hK7, hF7, hfb, hrb⟩
      have HG7 := hid hg7
      have HT7 := hid hT7
      have HK7 := hid hK7
      have HF7 := hid hF7
      have hte : tb ≠ eb := fun e => (KE6.out.ne HT6.out (by decide)) e.symm
      have KE7 := hid (KE6.out.kept hg7 (fun e => hte e.symm))
      have q0 := hg7.cell p0 (by intro e; injection e with e; have e' : w.heap.size = tb := e; omega)
      have q1 := hg7.cell p1 (by intro e; injection e with e; have e' : tb + 1 = tb := e; omega)
      have lq0 : w.heap.size < w7.heap.size := by have := hg7.size; omega
      have lq1 : tb + 1 < w7.heap.size := by have := hg7.size; omega
      have le7 := KE7.out.lt
      have hz7 := hg7.size
      clear hg7 hT7 hK7 hF7 p0 p1 p2 p3 p4 p5 g0 g1 e0
      go_wp2_with fail
      go_region_with (go_at_call 110; refine (join_any eb tb 0 w7.heap.size none _ _ w7.drew KE7.out (by rw [upd_off _ _ _ _ (by omega), upd_off _ _ _ _ (by omega)]; exact HF.out.2.2.2) HT7.out (by rw [upd_off _ _ _ _ (by omega)]; exact HTk.out.2.2.1) (World.ownsRow_nil _ _ _ _) (fun h => absurd rfl h) (Nat.le_refl _)).mono ?_; rintro e w8 ⟨rfl, qb, cq, hq1, hq2, hq3, hq4⟩; have HQ1 := hid hq1; have HQ2 := hid hq2; have HQ3 := hid hq3; have HQ4 : Hid (Only (fun k => k = eb ∨ k = tb) w7 w8) := (hq4.mono (fun k h _ => h.elim Or.inl (fun h => h.elim Or.inr (fun h => by cases h)))); clear hq1 hq2 hq3 hq4; have r1 : w8.cell? ⟨tb + 1, 0, none⟩ = some (P0 tb) := ((HQ4.out.cell (o := 0) lq1 (by have := le7; have := HZ4.out; omega)).trans q1); have lr1 : tb + 1 < w8.heap.size := (by have := HQ4.out.size; omega); have t0 := HQ3.out.cell 0 (by omega); have lt8 := HQ3.out.lt)
      all_goals
        rw [upd_off _ _ _ _ (by omega), upd_off _ _ _ _ (by omega), upd_off _ _ _ _ (by omega), HTk.out.1] at t0
        go_wp2_with fail
        go_ret
        refine ⟨⟨_, rfl⟩, ?_, ?_⟩
        · have hE := HG7.out
          refine ⟨HQ4.out.1.trans (hE.os.trans KG6.out.os), HQ4.out.2.1.trans (hE.tape.trans KG6.out.tape), HQ4.out.2.2.1.trans (hE.output.trans KG6.out.output), by have h1 := HQ4.out.size; have h2 := KG6.out.size; omega, fun k hk hn => ?_⟩
          have h2 := KG6.out.size
          have hke : k ≠ eb := fun e => hn (by rw [e])
          rw [HQ4.out.same (by omega) (by omega), hE.block k (by omega) (by intro e; injection e with e; omega)]
          exact KG6.out.block k hk hn
        · have hk8 : ∀ {k : Nat} {cur : Array Value} {T : TypeId}, w7.heap[k]? = some (.cells cur T (0, 0)) → T ≠ 144 → T ≠ 160 → w8.heap[k]? = some (.cells cur T (0, 0)) := by
            intro k cur T hk h1 h2
            refine HQ4.out.block hk ?_
            rintro (e | e)
            · subst e
              obtain ⟨c1, h3, _⟩ := KE7.out
              rw [h3] at hk; injection hk with hk; injection hk with _ hk _; exact h1 hk.symm
            · subst e
              obtain ⟨c1, h3, _⟩ := HT7.out
              rw [h3] at hk; injection hk with hk; injection hk with _ hk _; exact h2 hk.symm
          have hk7 : ∀ {k : Nat} {cur : Array Value} {T : TypeId}, w6.heap[k]? = some (.cells cur T (0, 0)) → T ≠ 160 → w7.heap[k]? = some (.cells cur T (0, 0)) := by
            intro k cur T hk h2
            refine grown_heap HG7.out hk ?_
            intro e
            injection e with e
            subst e
            obtain ⟨c1, h3, _⟩ := HT6.out
            rw [h3] at hk; injection hk with hk; injection hk with _ hk _; exact h2 hk.symm
          have own8 : ∀ {base size n : Nat} {T : TypeId} {v : Value} {xs : List Value}, w6.ownsRow base T size v n xs → T ≠ 144 → T ≠ 160 → w8.ownsRow base T size v n xs := by
            intro base size n T v xs h h1 h2
            refine own_of h (fun k hk => ?_)
            obtain ⟨_, _, cur, hc⟩ := own_ty h k hk
            exact (hk8 (hk7 hc h2) h1 h2).trans hc.symm
          have own7 : ∀ {base size n : Nat} {T : TypeId} {v : Value} {xs : List Value}, w7.ownsRow base T size v n xs → T ≠ 144 → T ≠ 160 → w8.ownsRow base T size v n xs := by
            intro base size n T v xs h h1 h2
            refine own_of h (fun k hk => ?_)
            obtain ⟨_, _, cur, hc⟩ := own_ty h k hk
            exact (hk8 hc h1 h2).trans hc.symm
          have lower : ∀ {base b' size n : Nat} {T : TypeId} {v : Value} {xs : List Value} {wz : World}, wz.ownsRow base T size v n xs → b' ≤ base → wz.ownsRow b' T size v n xs := by
            intro base b' size n T v xs wz h hb
            refine ⟨h.1, ?_⟩
            rcases h.2 with h | ⟨g', c', cur, h1, h2, h3⟩
            · exact Or.inl h
            · exact Or.inr ⟨g', c', cur, h1, by omega, h3⟩
          have h46 := HZ4.out
          have hlb := own_ty HL6.out lb rfl
          have hqb := own_ty HQ1.out qb rfl
          have hob := own_ty HO6.out ob rfl
          obtain ⟨hF1, hF2, hF3⟩ := HF7.out
          obtain ⟨curR, hR1, hR2⟩ := hF2
          have hz68 := KG6.out.size
          refine ⟨tb, kb, ck, fb, rb, lb, cl, ob, co, qb, cq, w.heap.size, tb + 1, by omega, by omega, by omega, Nat.le_refl _, by omega, hk8 (hk7 HY6.out.1 (by decide)) (by decide) (by decide), hk8 (hk7 HX6.out (by decide)) (by decide) (by decide), by omega, by omega, by omega, by omega, HQ2.out, own8 HO6.out (by decide) (by decide), lower (own8 HL6.out (by decide) (by decide)) (by omega), lower HQ1.out (by omega), lower (own7 HK7.out (by decide) (by decide)) (by omega), ⟨hk8 hF1 (by decide) (by decide), ⟨curR, hk8 hR1 (by decide) (by decide), hR2⟩, hF3⟩, _, HQ3.out, ?_, ?_, ?_, ?_, ?_⟩
          · rw [upd_off _ _ _ _ (by omega), upd_off _ _ _ _ (by omega), upd_off _ _ _ _ (by omega)]; exact HTk.out.1
          · rw [upd_off _ _ _ _ (by omega), upd_off _ _ _ _ (by omega), upd_at]
          · rw [upd_off _ _ _ _ (by omega), upd_at]
          · rw [upd_at]
          · rw [upd_off _ _ _ _ (by omega), upd_off _ _ _ _ (by omega), upd_off _ _ _ _ (by omega)]; exact HTk.out.2.2.2
end Go.Proofs.YtnjiinbhbjpfkaaGreatDoor

/-
  What the bytes of a program are, as plain functions on a ByteArray: each reader tells where it stands behind and whether all went well. Nothing of the program is imported here.
-/
namespace Go.Proofs.YtnjiinbhbjpfkaaGreatDoor.M

/-- The byte at a place (0 behind the end). -/
def bt (s : ByteArray) (p : Nat) : Nat := (s.data[p]?.getD 0).toNat

/-- May the byte at p be from lo to hi? -/
def tk (s : ByteArray) (p lo hi : Nat) : Bool := decide (p < s.size ∧ lo ≤ bt s p ∧ bt s p ≤ hi)

/-- The letters of the operands of an instruction. -/
def kd : List (List Nat) := [[114, 107, 107], [114, 114, 45], [114, 114, 114], [114, 114, 114], [114, 114, 114], [114, 114, 114], [114, 114, 114], [45, 116, 116], [114, 116, 116], [114, 115, 45], [114, 114, 114], [114, 114, 114], [114, 102, 114], [114, 114, 114], [114, 45, 45], [114, 114, 114], [45, 45, 45], [114, 45, 45], [114, 114, 45], [114, 45, 45], [114, 45, 45], [114, 114, 45], [114, 45, 45]]

def k0 (op : Nat) : Nat := (kd.getD op []).getD 0 0
def k1 (op : Nat) : Nat := (kd.getD op []).getD 1 0
def k2 (op : Nat) : Nat := (kd.getD op []).getD 2 0

/-- The greatest byte of an operand of a letter. -/
def hiOf (r f k : Nat) : Nat := if k = 114 then r - 1 else if k = 102 then f - 1 else if k = 115 then 8 else if k = 107 then 255 else 0

/-- A t at p, in a function of l instructions. -/
def tgt (s : ByteArray) (p l : Nat) : Nat × Bool :=
  if s.size < p + 2 then (s.size, false) else if l < 256 * bt s p + bt s (p + 1) then (p, false) else (p + 2, true)

/-- The operands, from p on. -/
def opn (s : ByteArray) (p op r f l : Nat) : Nat × Bool :=
  if tk s p 0 (hiOf r f (k0 op)) = true then
    if k1 op = 116 then tgt s (p + 1) l
    else if tk s (p + 1) 0 (hiOf r f (k1 op)) = true then
      if tk s (p + 2) 0 (hiOf r f (k2 op)) = true then (p + 3, true) else (p + 2, false)
    else (p + 1, false)
  else (p, false)

def ins (s : ByteArray) (p r f l : Nat) : Nat × Bool :=
  if tk s p 0 22 = true then opn s (p + 1) (bt s p) r f l else (p, false)

def code (s : ByteArray) (r f l : Nat) : Nat → Nat → Nat × Bool
  | p, 0 => (p, true)
  | p, n + 1 => if (ins s p r f l).2 = true then code s r f l (ins s p r f l).1 n else ((ins s p r f l).1, false)

def fn (s : ByteArray) (p f : Nat) : Nat × Bool :=
  if tk s p 2 8 = true then
    if tk s (p + 1) 1 200 = true then code s (bt s p) f (bt s (p + 1)) (p + 2) (bt s (p + 1)) else (p + 1, false)
  else (p, false)

def fns (s : ByteArray) (f : Nat) : Nat → Nat → Nat × Bool
  | p, 0 => (p, true)
  | p, n + 1 => if (fn s p f).2 = true then fns s f (fn s p f).1 n else ((fn s p f).1, false)

/-- The whole: where the reader stands behind it, and whether the bytes are a program. -/
def prg (s : ByteArray) : Nat × Bool :=
  if tk s 0 1 8 = true then ((fns s (bt s 0) 1 (bt s 0)).1, (fns s (bt s 0) 1 (bt s 0)).2 && decide ((fns s (bt s 0) 1 (bt s 0)).1 = s.size)) else (0, false)

/-- The operands by a list of letters. -/
def ops (s : ByteArray) (r f l : Nat) : List Nat → Nat → Nat × Bool
  | [], q => (q, true)
  | k :: ks, q => if k = 116 then tgt s q l else if tk s q 0 (hiOf r f k) = true then ops s r f l ks (q + 1) else (q, false)

theorem kd_facts : ∀ op, op < 23 → kd.getD op [] = [k0 op, k1 op, k2 op] ∧ k0 op ≠ 116 ∧ (k1 op ≠ 116 → k2 op ≠ 116) := by decide

theorem ops_opn (s : ByteArray) (p op r f l : Nat) (h : op < 23) : ops s r f l (kd.getD op []) p = opn s p op r f l := by
  obtain ⟨h1, h2, h3⟩ := kd_facts op h
  rw [h1]
  unfold opn
  simp only [ops, if_neg h2]
  by_cases h4 : k1 op = 116
  · simp only [if_pos h4]
  · simp only [if_neg h4, if_neg (h3 h4)]

theorem bt_lt (s : ByteArray) (p : Nat) : bt s p < 256 := by
  unfold bt; exact UInt8.toNat_lt _

theorem bt_at (s : ByteArray) (p : Nat) (h : p < s.size) : bt s p = (s[p]'h).toNat := by
  have h' : p < s.data.size := h
  unfold bt
  rw [Array.getElem?_eq_getElem h']
  rfl

theorem tk_lt {s : ByteArray} {p lo hi : Nat} (h : tk s p lo hi = true) : p < s.size ∧ lo ≤ bt s p ∧ bt s p ≤ hi := by
  simpa [tk] using h

theorem tgt_le {s : ByteArray} {p l : Nat} (h : p ≤ s.size) : p ≤ (tgt s p l).1 ∧ (tgt s p l).1 ≤ s.size := by
  unfold tgt; split
  · exact ⟨h, Nat.le_refl _⟩
  · split <;> simp <;> omega

theorem opn_le {s : ByteArray} {p op r f l : Nat} (h : p ≤ s.size) : p ≤ (opn s p op r f l).1 ∧ (opn s p op r f l).1 ≤ s.size := by
  unfold opn
  split
  · rename_i h1
    have := tk_lt h1
    split
    · have := tgt_le (s := s) (p := p + 1) (l := l) (by omega); omega
    · split
      · rename_i h2
        have := tk_lt h2
        split
        · rename_i h3
          have := tk_lt h3
          simp; omega
        · simp; omega
      · simp; omega
  · simp; omega

theorem ins_le {s : ByteArray} {p r f l : Nat} (h : p ≤ s.size) : p ≤ (ins s p r f l).1 ∧ (ins s p r f l).1 ≤ s.size := by
  unfold ins
  split
  · rename_i h1
    have := tk_lt h1
    have := opn_le (s := s) (p := p + 1) (op := bt s p) (r := r) (f := f) (l := l) (by omega); omega
  · simp; omega

theorem opn_yes {s : ByteArray} {p op r f l : Nat} (h : (opn s p op r f l).2 = true) : (opn s p op r f l).1 = p + 3 := by
  unfold opn at *
  by_cases h1 : tk s p 0 (hiOf r f (k0 op)) = true
  · rw [if_pos h1] at h ⊢
    by_cases h2 : k1 op = 116
    · rw [if_pos h2] at h ⊢
      unfold tgt at *
      by_cases h3 : s.size < p + 1 + 2
      · rw [if_pos h3] at h; simp at h
      · rw [if_neg h3] at h ⊢
        by_cases h4 : l < 256 * bt s (p + 1) + bt s (p + 1 + 1)
        · rw [if_pos h4] at h; simp at h
        · rw [if_neg h4]
    · rw [if_neg h2] at h ⊢
      by_cases h3 : tk s (p + 1) 0 (hiOf r f (k1 op)) = true
      · rw [if_pos h3] at h ⊢
        by_cases h4 : tk s (p + 2) 0 (hiOf r f (k2 op)) = true
        · rw [if_pos h4]
        · rw [if_neg h4] at h; simp at h
      · rw [if_neg h3] at h; simp at h
  · rw [if_neg h1] at h; simp at h

theorem ins_yes {s : ByteArray} {p r f l : Nat} (h : (ins s p r f l).2 = true) : (ins s p r f l).1 = p + 4 := by
  unfold ins at *
  split at h
  · rw [if_pos (by assumption), opn_yes h]
  · simp at h

theorem code_le {s : ByteArray} {r f l : Nat} (n : Nat) : ∀ p, p ≤ s.size → p ≤ (code s r f l p n).1 ∧ (code s r f l p n).1 ≤ s.size := by
  induction n with
  | zero => intro p h; simp [code]; exact h
  | succ n ih =>
    intro p h
    have hi := ins_le (s := s) (p := p) (r := r) (f := f) (l := l) h
    unfold code
    split
    · have := ih _ hi.2; omega
    · exact hi

theorem fn_le {s : ByteArray} {p f : Nat} (h : p ≤ s.size) : p ≤ (fn s p f).1 ∧ (fn s p f).1 ≤ s.size := by
  unfold fn
  split
  · rename_i h1
    have := tk_lt h1
    split
    · rename_i h2
      have := tk_lt h2
      have := code_le (s := s) (r := bt s p) (f := f) (l := bt s (p + 1)) (bt s (p + 1)) (p + 2) (by omega)
      omega
    · simp; omega
  · simp; omega

theorem fns_le {s : ByteArray} {f : Nat} (n : Nat) : ∀ p, p ≤ s.size → p ≤ (fns s f p n).1 ∧ (fns s f p n).1 ≤ s.size := by
  induction n with
  | zero => intro p h; simp [fns]; exact h
  | succ n ih =>
    intro p h
    have hi := fn_le (s := s) (p := p) (f := f) h
    unfold fns
    split
    · have := ih _ hi.2; omega
    · exact hi

/-- The letters of a text. -/
def letters (S : ByteArray) : List Nat := S.data.toList.map UInt8.toNat
/-- The text of the letters of an instruction. -/
def KS (op : Nat) : ByteArray := ⟨((kd.getD op []).map UInt8.ofNat).toArray⟩
theorem KS_facts : ∀ op, op < 23 → letters (KS op) = kd.getD op [] ∧ (KS op).size = 3 := by decide
theorem letters_drop (S : ByteArray) (k : Nat) (h : k < S.size) : (letters S).drop k = S[k].toNat :: (letters S).drop (k + 1) := by
  have h' : k < (letters S).length := by simpa [letters] using h
  rw [List.drop_eq_getElem_cons h']
  simp [letters]; rfl
theorem letters_end (S : ByteArray) : (letters S).drop S.size = [] := by
  apply List.drop_of_length_le; simp [letters]
theorem ops_le {s : ByteArray} {r f l : Nat} (ks : List Nat) : ∀ p, p ≤ s.size → p ≤ (ops s r f l ks p).1 ∧ (ops s r f l ks p).1 ≤ s.size := by
  induction ks with
  | nil => intro p h; simp [ops]; exact h
  | cons k ks ih =>
    intro p h
    unfold ops
    split
    · exact tgt_le h
    · split
      · rename_i h1
        have := tk_lt h1
        have := ih (p + 1) (by omega)
        omega
      · simp; exact h

/-- A byte of a piece. -/
theorem bt_extract (s : ByteArray) (p q i : Nat) (h : q ≤ s.size) (hi : p + i < q) : bt (s.extract p q) i = bt s (p + i) := by
  unfold bt
  have : (s.extract p q).data = s.data.extract p q := by simp
  rw [this, Array.getElem?_extract]
  have h' : q ≤ s.data.size := h
  rw [if_pos (by omega)]

theorem code_yes {s : ByteArray} {r f l : Nat} (n : Nat) : ∀ p, (code s r f l p n).2 = true → (code s r f l p n).1 = p + 4 * n := by
  induction n with
  | zero => intro p _; rfl
  | succ n ih =>
    intro p h
    unfold code at h ⊢
    by_cases h1 : (ins s p r f l).2 = true
    · rw [if_pos h1] at h ⊢
      rw [ih _ h, ins_yes h1]; omega
    · rw [if_neg h1] at h; simp at h

theorem fn_yes {s : ByteArray} {p f : Nat} (h : (fn s p f).2 = true) : (fn s p f).1 = p + 2 + 4 * bt s (p + 1) ∧ 2 ≤ bt s p ∧ bt s p ≤ 8 ∧ 1 ≤ bt s (p + 1) ∧ bt s (p + 1) ≤ 200 := by
  unfold fn at *
  by_cases h1 : tk s p 2 8 = true
  · rw [if_pos h1] at h ⊢
    by_cases h2 : tk s (p + 1) 1 200 = true
    · rw [if_pos h2] at h ⊢
      have := tk_lt h1
      have := tk_lt h2
      refine ⟨code_yes _ _ h, by omega, by omega, by omega, by omega⟩
    · rw [if_neg h2] at h; simp at h
  · rw [if_neg h1] at h; simp at h

/-- Where the function with the number k begins. -/
def pos (s : ByteArray) : Nat → Nat
  | 0 => 1
  | k + 1 => pos s k + 2 + 4 * bt s (pos s k + 1)

end Go.Proofs.YtnjiinbhbjpfkaaGreatDoor.M

/-
  Small facts on worlds: a call that writes into one block and makes new ones ('grownBy'), and the readers' blocks.
-/
namespace Go.Proofs.YtnjiinbhbjpfkaaGreatDoor
open Go.RowKit

/-- The block of the program's reader. -/
def rdA (s : ByteArray) (p f r l : Int) : Obj := .cells #[.string s, .int .i64 p, .int .i64 f, .int .i64 r, .int .i64 l] 128 (0, 0)
/-- The block of the document's reader. -/
def rdB (s : ByteArray) (p : Int) (bad : Bool) : Obj := .cells #[.string s, .int .i64 p, .bool bad] 124 (0, 0)

section
variable {w : World} {b : Nat} {s : ByteArray} {p f r l : Int}
theorem rdA_cells (h : w.heap[b]? = some (rdA s p f r l)) : w.cell? ⟨b, 0, none⟩ = some (.string s) ∧ w.cell? ⟨b, 1, none⟩ = some (.int .i64 p) ∧ w.cell? ⟨b, 2, none⟩ = some (.int .i64 f) ∧ w.cell? ⟨b, 3, none⟩ = some (.int .i64 r) ∧ w.cell? ⟨b, 4, none⟩ = some (.int .i64 l) := by
  simp [World.cell?, h, rdA]
theorem rdA_frozen (h : w.heap[b]? = some (rdA s p f r l)) : w.frozen? ⟨b, 1, none⟩ = false ∧ w.frozen? ⟨b, 2, none⟩ = false ∧ w.frozen? ⟨b, 3, none⟩ = false ∧ w.frozen? ⟨b, 4, none⟩ = false := by
  simp [World.frozen?, h, rdA]
theorem rdA_set1 (h : w.heap[b]? = some (rdA s p f r l)) (v : Int) : (w.setCell ⟨b, 1, none⟩ (.int .i64 v)).heap[b]? = some (rdA s v f r l) := by
  simp [World.setCell, Array.getElem?_modify, h, rdA]
theorem rdA_set2 (h : w.heap[b]? = some (rdA s p f r l)) (v : Int) : (w.setCell ⟨b, 2, none⟩ (.int .i64 v)).heap[b]? = some (rdA s p v r l) := by
  simp [World.setCell, Array.getElem?_modify, h, rdA]
theorem rdA_set3 (h : w.heap[b]? = some (rdA s p f r l)) (v : Int) : (w.setCell ⟨b, 3, none⟩ (.int .i64 v)).heap[b]? = some (rdA s p f v l) := by
  simp [World.setCell, Array.getElem?_modify, h, rdA]
theorem rdA_set4 (h : w.heap[b]? = some (rdA s p f r l)) (v : Int) : (w.setCell ⟨b, 4, none⟩ (.int .i64 v)).heap[b]? = some (rdA s p f r v) := by
  simp [World.setCell, Array.getElem?_modify, h, rdA]
end

section
variable {w : World} {b : Nat} {s : ByteArray} {p : Int} {bad : Bool}
theorem rdB_cells (h : w.heap[b]? = some (rdB s p bad)) : w.cell? ⟨b, 0, none⟩ = some (.string s) ∧ w.cell? ⟨b, 1, none⟩ = some (.int .i64 p) ∧ w.cell? ⟨b, 2, none⟩ = some (.bool bad) := by
  simp [World.cell?, h, rdB]
theorem rdB_frozen (h : w.heap[b]? = some (rdB s p bad)) : w.frozen? ⟨b, 1, none⟩ = false ∧ w.frozen? ⟨b, 2, none⟩ = false := by
  simp [World.frozen?, h, rdB]
theorem rdB_set1 (h : w.heap[b]? = some (rdB s p bad)) (v : Int) : (w.setCell ⟨b, 1, none⟩ (.int .i64 v)).heap[b]? = some (rdB s v bad) := by
  simp [World.setCell, Array.getElem?_modify, h, rdB]
theorem rdB_set2 (h : w.heap[b]? = some (rdB s p bad)) (v : Bool) : (w.setCell ⟨b, 2, none⟩ (.bool v)).heap[b]? = some (rdB s p v) := by
  simp [World.setCell, Array.getElem?_modify, h, rdB]
end

end Go.Proofs.YtnjiinbhbjpfkaaGreatDoor

/-
  The program's 'take' gives the byte at the reader's place and goes on by one, if the byte lies within the bounds, and else gives nothing and stays: for every reader whose place is within its text.
-/
namespace Go.Proofs.YtnjiinbhbjpfkaaGreatDoor
open Go.RowKit

set_option maxHeartbeats 400000 in
theorem take_end (b : Nat) (s : ByteArray) (f r l lo hi : Int) (w : World) (h : w.heap[b]? = some (rdA s s.size f r l)) :
    Calls Tryz.prog 81 #[.pointer (some ⟨b, 0, none⟩), .int .i64 lo, .int .i64 hi] w fun e w' => e = .returned (.tuple #[.int .i64 0, .bool false]) ∧ ∃ n, w' = w.drewN n := by
  obtain ⟨c0, c1, _, _, _⟩ := rdA_cells h
  clear h
  go_enter Tryz.func81, Tryz.ntmps81
  go_wp2
  go_quiet (fail)
  go_wp2
  go_ret2
  exact ⟨rfl, _, rfl⟩

set_option maxHeartbeats 400000 in
theorem take_yes (b : Nat) (s : ByteArray) (p : Nat) (f r l lo hi x : Int) (w : World) (h : w.heap[b]? = some (rdA s p f r l)) (hs : s.size ≤ maxLen) (hp : p < s.size) (hx : Hid (x = (s[p].toNat : Int))) (h1 : lo ≤ x) (h2 : x ≤ hi) :
    Calls Tryz.prog 81 #[.pointer (some ⟨b, 0, none⟩), .int .i64 lo, .int .i64 hi] w fun e w' => e = .returned (.tuple #[.int .i64 x, .bool true]) ∧ ∃ n, w' = (w.drewN n).setCell ⟨b, 1, none⟩ (.int .i64 (p + 1)) := by
  unfold maxLen at hs
  obtain ⟨c0, c1, _, _, _⟩ := rdA_cells h
  obtain ⟨f1, _⟩ := rdA_frozen h
  have hpn : ((p : Int) == (s.size : Int)) = false := by simp; omega
  have hb8 : s[p].toNat < 256 := UInt8.toNat_lt _
  rw [hx.out] at h1 h2 ⊢
  clear h hx
  go_enter Tryz.func81, Tryz.ntmps81
  go_wp2
  go_quiet (fail)
  go_wp2
  go_quiet (fail)
  go_wp2
  go_ret2
  exact ⟨rfl, _, rfl⟩

set_option maxHeartbeats 400000 in
theorem take_no (b : Nat) (s : ByteArray) (p : Nat) (f r l lo hi x : Int) (w : World) (h : w.heap[b]? = some (rdA s p f r l)) (hp : p < s.size) (hx : Hid (x = (s[p].toNat : Int))) (h1 : x < lo ∨ hi < x) :
    Calls Tryz.prog 81 #[.pointer (some ⟨b, 0, none⟩), .int .i64 lo, .int .i64 hi] w fun e w' => e = .returned (.tuple #[.int .i64 0, .bool false]) ∧ ∃ n, w' = w.drewN n := by
  obtain ⟨c0, c1, _, _, _⟩ := rdA_cells h
  have hpn : ((p : Int) == (s.size : Int)) = false := by simp; omega
  have hb8 : s[p].toNat < 256 := UInt8.toNat_lt _
  rw [hx.out] at h1
  clear h hx
  by_cases h3 : (s[p].toNat : Int) < lo
  all_goals
    go_enter Tryz.func81, Tryz.ntmps81
    go_wp2
    go_quiet (fail)
    go_wp2
    go_quiet (fail)
    go_wp2
    go_ret2
    exact ⟨rfl, _, rfl⟩

/-- 'take' where the byte may be: it is given, and the reader stands behind it. -/
theorem take_good (b : Nat) (s : ByteArray) (p L H : Nat) (f r l lo hi : Int) (w : World) (h : w.heap[b]? = some (rdA s p f r l)) (hs : s.size ≤ maxLen) (hL : lo = L) (hH : hi = H) (ht : M.tk s p L H = true) :
    Calls Tryz.prog 81 #[.pointer (some ⟨b, 0, none⟩), .int .i64 lo, .int .i64 hi] w fun e w' => e = .returned (.tuple #[.int .i64 (M.bt s p), .bool true]) ∧ w'.heap[b]? = some (rdA s ((p + 1 : Nat) : Int) f r l) ∧ w.grownBy w' (some b) := by
  obtain ⟨h1, h2, h3⟩ := M.tk_lt ht
  have e := M.bt_at s p h1
  refine (take_yes b s p f r l lo hi (M.bt s p) w h hs h1 (by show _ = _; rw [e]) (by omega) (by omega)).mono ?_
  rintro e w' ⟨rfl, n, rfl⟩
  exact ⟨rfl, rdA_set1 (w := w.drewN n) h _, grown_setCell (grown_drewN (grown_refl _ _) _) (Or.inl rfl) _⟩

/-- 'take' where it may not: nothing is given, and the reader stays. -/
theorem take_bad (b : Nat) (s : ByteArray) (p L H : Nat) (f r l lo hi : Int) (w : World) (h : w.heap[b]? = some (rdA s p f r l)) (hp : p ≤ s.size) (hL : lo = L) (hH : hi = H) (ht : M.tk s p L H = false) :
    Calls Tryz.prog 81 #[.pointer (some ⟨b, 0, none⟩), .int .i64 lo, .int .i64 hi] w fun e w' => e = .returned (.tuple #[.int .i64 0, .bool false]) ∧ w'.heap[b]? = some (rdA s p f r l) ∧ w.grownBy w' (some b) := by
  by_cases h1 : p < s.size
  · have e := M.bt_at s p h1
    have h2 : M.bt s p < L ∨ H < M.bt s p := by simp [M.tk] at ht; omega
    refine (take_no b s p f r l lo hi (M.bt s p) w h h1 (by show _ = _; rw [e]) (by omega)).mono ?_
    rintro e w' ⟨rfl, n, rfl⟩
    exact ⟨rfl, h, grown_drewN (grown_refl _ _) _⟩
  · obtain rfl : p = s.size := by omega
    refine (take_end b s f r l lo hi w h).mono ?_
    rintro e w' ⟨rfl, n, rfl⟩
    exact ⟨rfl, h, grown_drewN (grown_refl _ _) _⟩

end Go.Proofs.YtnjiinbhbjpfkaaGreatDoor
