/-
  Fair's arguments, as they are read, and what the law does with them: for every input of bulk at most 1048576 the law Fair returns true, and its arguments read as they did. The package-level table of the operands' letters is taken as its initialiser lays it.
-/
import Derived.Test.YtnjiinbhbjpfkaaGreatDoorGateZA
import Derived.Deep.DeepHandedRow
import Derived.Deep.SlicePairs
namespace Go.Proofs.YtnjiinbhbjpfkaaGreatDoor
open Go.ChangeShapes Go.WideShapes Go.ChangeAt Go.WideMaps Go.WideElems Go.RowKit Go.Joins
open Go.ChangeMaps (open_string shut_string)
theorem bulk_one {H : Type} (d : DataW H) : 1 ≤ Rows.uptoBulk d := by
  cases d with
  | lit l => cases l <;> simp [Rows.uptoBulk]
  | _ => simp [Rows.uptoBulk]
theorem bulk_mem {H : Type} {d : DataW H} {l : List (DataW H)} (h : d ∈ l) : Rows.uptoBulk d ≤ Rows.uptoBulkAll l := by
  induction l with
  | nil => cases h
  | cons x r ih =>
    simp only [Rows.uptoBulkAll]
    rcases List.mem_cons.1 h with rfl | h
    · omega
    · have := ih h; omega
theorem bulk_len {H : Type} (l : List (DataW H)) : l.length ≤ Rows.uptoBulkAll l := by
  induction l with
  | nil => simp [Rows.uptoBulkAll]
  | cons x r ih => have := bulk_one x; simp only [Rows.uptoBulkAll, List.length_cons]; omega
theorem Tryz.cells58 : Tryz.prog.cellsOf 58 = 2 := by kernel_rfl
theorem Tryz.cells169 : Tryz.prog.cellsOf 169 = 2 := by kernel_rfl
theorem open_in {H : Type} {enc : TypeId × Value → H} {W : World} {sp : Nat → Bool} {held : Bool} {n : Nat} {v : Value} {x : DataW H × List MemPlace} (h : DataW.trod enc Tryz.prog W 0 sp held n 56 [v] = some x) (hb : Rows.uptoBulk x.1 ≤ 1048576) :
    ∃ q : Option Addr × Nat × Nat × List (Int × Nat), v = .slice q.1 q.2.1 q.2.2.1 ∧ q.2.1 = q.2.2.2.length ∧ q.2.1 ≤ 1000000000 ∧ (∀ y, y ∈ q.2.2.2 → y.2 < 256) ∧ (q.1 = none → q.2.2.2 = []) ∧ ∀ b, q.1 = some b → q.2.2.2 ≠ [] → b.block < W.heap.size ∧ ∀ j y, q.2.2.2[j]? = some y → W.cell? (b.add (j * 2)) = some (.int .i64 y.1) ∧ W.cell? (b.add (j * 2 + 1)) = some (.int .u8 (y.2 : Int)) := by
  rcases Go.Deep.open_slice_pairs Tryz.underlying56 Tryz.underlying169 Tryz.cells169 rfl rfl (by kernel_rfl) (by kernel_rfl) h with ⟨h1, _⟩ | ⟨a, len, cap, m, n', V0, V1, D0, D1, P0, P1, h1, _, hl, hm, hmm, hx, hi⟩
  · have e : v = .slice none 0 0 := by simpa using h1
    exact ⟨(none, 0, 0, []), e, rfl, Nat.zero_le _, fun y hy => (by cases hy), fun _ => rfl, fun b hb' => (by cases hb')⟩
  · have e : v = .slice (some a) len cap := by simpa using h1
    have hlm : len ≤ m := by rw [hmm]; split <;> omega
    have each : ∀ j, j < len → ∃ y : Int × Nat, y.2 < 256 ∧ W.cell? (a.add (j * 2)) = some (.int .i64 y.1) ∧ W.cell? (a.add (j * 2 + 1)) = some (.int .u8 (y.2 : Int)) := fun j hj => by
      obtain ⟨k1, k2, k3, k4⟩ := hi j (by omega)
      obtain ⟨z, e0, _, _⟩ := DataW.trod_int Tryz.underlying3 k3
      obtain ⟨b, e1, _, wb⟩ := DataW.trod_int Tryz.underlying5 k4
      simp at e0 e1
      have hw : 0 ≤ b ∧ b ≤ 255 := by
        have h' : IntKind.u8.min ≤ b ∧ b ≤ IntKind.u8.max := by simpa [Lit.wf] using wb
        exact h'
      refine ⟨(z, b.toNat), by show b.toNat < 256; omega, by rw [k1, e0], ?_⟩
      rw [k2, e1]
      show some (Value.int .u8 b) = some (Value.int .u8 ((b.toNat : Nat) : Int))
      rw [Int.toNat_of_nonneg hw.1]
    obtain ⟨Y, hY⟩ := Go.Deep.choose_lt each
    have hlen : len ≤ 1048576 := by
      rw [hx] at hb
      simp only [Rows.uptoBulk] at hb
      have := bulk_len ((List.range len).map fun i => (DataW.agg [D0 i, D1 i] : DataW H))
      rw [List.length_map, List.length_range] at this
      omega
    refine ⟨(some a, len, cap, (List.range len).map Y), e, by simp, by show len ≤ _; omega, fun y hy => ?_, fun h => (by cases h), fun b hb' hne => ?_⟩
    · obtain ⟨j, hj, rfl⟩ := List.mem_map.1 hy
      exact (hY j (List.mem_range.1 hj)).1
    · have eb : a = b := by injection hb'
      subst eb
      have hat : ∀ j y, ((List.range len).map Y)[j]? = some y → j < len ∧ Y j = y := fun j y hj => by
        rw [List.getElem?_map] at hj
        by_cases hjl : j < len
        · rw [List.getElem?_range hjl] at hj
          exact ⟨hjl, by simpa using hj⟩
        · rw [List.getElem?_eq_none (by simp; omega)] at hj
          cases hj
      refine ⟨?_, fun j y hj => ?_⟩
      · have h0 : 0 < len := by
          rcases Nat.eq_zero_or_pos len with h0 | h0
          · exact absurd (by show (List.range len).map Y = []; rw [h0]; rfl) hne
          · exact h0
        have hc := (hY 0 h0).2.1
        have := World.block_lt_of_cell? W _ hc
        rw [F.addr_block] at this
        exact this
      · obtain ⟨hjl, rfl⟩ := hat j y hj
        exact (hY j hjl).2
theorem fair_tks {H : Type} {enc : TypeId × Value → H} {W : World} {sp : Nat → Bool} {held : Bool} {fuel : Nat} {a0 : Option Addr} {len cap : Nat} {x : DataW H × List MemPlace} (h : DataW.trod enc Tryz.prog W 0 sp held fuel 53 [.slice a0 len cap] = some x) (hb : Rows.uptoBulk x.1 ≤ 1048576) :
    len ≤ 1048576 ∧ ∃ tk ia inn ic il, F.Tks W a0 len tk ia inn ic il := by
  rcases Go.Deep.open_slice_pairs Tryz.underlying53 Tryz.underlying58 Tryz.cells58 rfl rfl (by kernel_rfl) (by kernel_rfl) h with ⟨h1, _⟩ | ⟨a, len', cap', m, n', V0, V1, D0, D1, P0, P1, h1, _, hl, hm, hmm, hx, hi⟩
  · simp at h1
    obtain ⟨rfl, rfl, rfl⟩ := h1
    exact ⟨by omega, fun _ => 0, fun _ => none, fun _ => 0, fun _ => 0, fun _ => [], ⟨fun _ => rfl, fun a e => (by cases e), fun i hi => absurd hi (Nat.not_lt_zero i)⟩⟩
  · simp at h1
    obtain ⟨rfl, rfl, rfl⟩ := h1
    have hlm : len ≤ m := by rw [hmm]; split <;> omega
    rw [hx] at hb
    simp only [Rows.uptoBulk] at hb
    have hle := bulk_len ((List.range len).map fun i => (DataW.agg [D0 i, D1 i] : DataW H))
    rw [List.length_map, List.length_range] at hle
    have each : ∀ i, i < len → ∃ q : Int × (Option Addr × Nat × Nat × List (Int × Nat)), V0 i = .int .i64 q.1 ∧ (V1 i = .slice q.2.1 q.2.2.1 q.2.2.2.1 ∧ q.2.2.1 = q.2.2.2.2.length ∧ q.2.2.1 ≤ 1000000000 ∧ (∀ y, y ∈ q.2.2.2.2 → y.2 < 256) ∧ (q.2.1 = none → q.2.2.2.2 = []) ∧ ∀ b, q.2.1 = some b → q.2.2.2.2 ≠ [] → b.block < W.heap.size ∧ ∀ j y, q.2.2.2.2[j]? = some y → W.cell? (b.add (j * 2)) = some (.int .i64 y.1) ∧ W.cell? (b.add (j * 2 + 1)) = some (.int .u8 (y.2 : Int))) := fun i hil => by
      obtain ⟨_, _, k3, k4⟩ := hi i (by omega)
      obtain ⟨z, e0, _, _⟩ := DataW.trod_int Tryz.underlying2 k3
      simp at e0
      have hbi : Rows.uptoBulk (D1 i) ≤ 1048576 := by
        have hm1 := bulk_mem (l := (List.range len).map fun i => (DataW.agg [D0 i, D1 i] : DataW H)) (List.mem_map.2 ⟨i, List.mem_range.2 hil, rfl⟩)
        simp only [Rows.uptoBulk, Rows.uptoBulkAll] at hm1
        omega
      obtain ⟨q, hq⟩ := open_in k4 hbi
      exact ⟨(z, q), e0, hq⟩
    obtain ⟨Q, hQ⟩ := Go.Deep.choose_lt each
    refine ⟨by omega, fun i => (Q i).1, fun i => (Q i).2.1, fun i => (Q i).2.2.1, fun i => (Q i).2.2.2.1, fun i => (Q i).2.2.2.2, ⟨fun e => (by cases e), fun b hb' i hil => ?_, fun i hil => ?_⟩⟩
    · have eb : a = b := by injection hb'
      subst eb
      obtain ⟨k1, k2, _, _⟩ := hi i (by omega)
      refine ⟨?_, by rw [k1, (hQ i hil).1], by rw [k2, (hQ i hil).2.1]⟩
      have := World.block_lt_of_cell? W _ k1
      rw [F.addr_block] at this
      exact this
    · exact (hQ i hil).2.2
theorem fair_tab {W : World} (h : laidMetH Tryz.prog Rows.fairUptoRow.laid W) : Tab W := tab_of_laid h
theorem fair_met (os : Os) (args : Array Value) : laidMetH Tryz.prog Rows.fairUptoRow.laid ((World.doorLaid Tryz.prog 400 os).forCall (fun _ _ => 0) ⟨#[], args, []⟩).memory :=
  laidMetH_of_parts3 (fuel := 8) (laidMet_of_run' 8 (by kernel_rfl) (by kernel_rfl)) (by kernel_rfl) (by kernel_rfl)
theorem Tryz.cellsC : Tryz.prog.cellsOf 23 = 4 := by kernel_rfl
set_option maxRecDepth 100000 in
theorem fair_contract (H : Type) (enc : TypeId × Value → H) (W : World) (base : Nat) (args : Array Value) (ds gs : List (DataW H)) (before : List MemPlace)
    (hval : ∀ (j : Nat) t v, Tryz.f9.params[j]? = some t → args[j]? = some v → Value.okWide Tryz.prog W .any base t v)
    (hW : DataW.Whole enc Tryz.prog Tryz.f9.params.toList Rows.fairSpec.vars false W args.toList ds gs before) (hk : Rows.uptoSmall H (ds ++ gs) = true) (hL : laidMetH Tryz.prog Rows.fairUptoRow.laid W) :
    Calls Tryz.prog 9 args W fun e W' => ∃ v, e = .returned v ∧ Rows.fairSpec.post enc Tryz.prog Tryz.f9 false true false false W args v W' := by
  have hW' := hW
  obtain ⟨p, q, hA0, hV, rfl, hfz, hnd⟩ := hW
  have hA : DataW.TrodAll enc Tryz.prog W 0 (fun _ => true) true Tryz.f9.params.toList args.toList ds p := hA0
  rw [Tryz.params9] at hA hval
  obtain ⟨v0, v1, v2, d0, d1, d2, p0, p1, p2, rfl, rfl, rfl, h0, h1, h2⟩ := trodAll_three hA
  obtain ⟨rfl, rfl⟩ := trodVars_none hV
  have hT : Tab W := fair_tab hL
  obtain ⟨s, rfl, rfl, rfl, hs⟩ := open_string Tryz.underlying9 (hval 0 9 v0 rfl rfl) h0
  obtain ⟨u0, u1, u2, u3, y0, y1, y2, y3, m, rfl, rfl, rfl, hy0, hy1, hy2, hy3⟩ := open_agg4 Tryz.underlying23 (by kernel_rfl) Tryz.cellsC (hval 1 23 v1 rfl rfl) h1
  obtain ⟨c0, e0, rfl, wc0⟩ := DataW.trod_int Tryz.underlying3 hy0
  obtain ⟨c1, e1, rfl, wc1⟩ := DataW.trod_int Tryz.underlying3 hy1
  obtain ⟨c2, e2, rfl, wc2⟩ := DataW.trod_int Tryz.underlying3 hy2
  obtain ⟨c3, e3, rfl, wc3⟩ := DataW.trod_int Tryz.underlying3 hy3
  simp at e0 e1 e2 e3
  subst e0 e1 e2 e3
  obtain ⟨a0, len, cap, rfl⟩ := okWide_slice Tryz.underlying53 (hval 2 53 v2 rfl rfl)
  have h2k := h2
  obtain ⟨fuel, hf⟩ := h2
  clear hA0
  simp only [List.append_nil, List.nil_append] at hW' hk
  have hsm := of_decide_eq_true hk
  simp only [Rows.uptoBulkAll, Rows.uptoBulk] at hsm
  have hlt : ∀ x ∈ p2, x.block < W.heap.size := fun x hx => by simpa using hW'.lt x (by simp [hx])
  have hargs : ∀ (W' : World), Below W.heap.size W W' → DataW.Trod enc Tryz.prog W' 0 (fun b => decide (b < W.heap.size)) true 53 (.slice a0 len cap) d2 p2 :=
    fun W' hn => Below.trod Tryz.laidOut (by kernel_rfl) (of_decide_eq_true (by kernel_rfl)) h2k hn hlt
  obtain ⟨hlen, tk, ia, inn, ic, il, hin⟩ := fair_tks hf (by show Rows.uptoBulk d2 ≤ _; omega)
  have hsz : s.size ≤ maxLen := by
    have e : s.data.toList.length = s.size := by simp
    unfold maxLen
    omega
  refine (F.fair_any s c0 c1 c2 c3 a0 len cap tk ia inn ic il W hsz hT hlen hin (fun w1 h1 => F.emits2_any w1 h1)).mono fun e W' ⟨he, hB⟩ => ?_
  subst he
  have hmk := trodAll_mk3 (spare := fun b => decide (b < W.heap.size)) (shut_string Tryz.underlying9 hs) (shut_agg4 (v0 := .int .i64 c0) (v1 := .int .i64 c1) (v2 := .int .i64 c2) (v3 := .int .i64 c3) (y0 := (.lit (.int .i64 c0), [])) (y1 := (.lit (.int .i64 c1), [])) (y2 := (.lit (.int .i64 c2), [])) (y3 := (.lit (.int .i64 c3), [])) Tryz.underlying23 (by kernel_rfl) Tryz.cellsC ⟨1, by simp [DataW.trod, Tryz.underlying3, wc0]⟩ ⟨1, by simp [DataW.trod, Tryz.underlying3, wc1]⟩ ⟨1, by simp [DataW.trod, Tryz.underlying3, wc2]⟩ ⟨1, by simp [DataW.trod, Tryz.underlying3, wc3]⟩) (hargs _ hB)
  refine ⟨_, rfl, [.lit (.string s.data.toList), .agg [.lit (.int .i64 c0), .lit (.int .i64 c1), .lit (.int .i64 c2), .lit (.int .i64 c3)], d2], [], _, [], _, [], hW', ?_, hmk, rfl, hB.frame _, fun h => by cases h⟩
  exact trodAll_mk1 (shut_bool Tryz.underlying4 _)
end Go.Proofs.YtnjiinbhbjpfkaaGreatDoor
