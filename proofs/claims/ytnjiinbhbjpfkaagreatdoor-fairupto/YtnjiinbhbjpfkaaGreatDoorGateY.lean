/-
  The program's engine is made: what lies in its memory.
-/
import Derived.Test.YtnjiinbhbjpfkaaGreatDoorGateX
namespace Go.Proofs.YtnjiinbhbjpfkaaGreatDoor
open Go.RowKit
theorem Tab.below {w w' : World} (h : Tab w) (hb : Below w.heap.size w w') : Tab w' :=
  ⟨Nat.lt_of_lt_of_le h.1 hb.size, fun op ho => (hb.cell (p := ⟨0, op, none⟩) h.1).trans (h.2 op ho)⟩
theorem Tryz.info228c : (Tryz.prog.info? 228).map (fun i => (i.zero, i.size, i.bytes)) = some (some (.agg #[.int .u8 0, .int .i64 0, .slice none 0 0]), 3, 40) := by kernel_rfl
set_option maxRecDepth 100000 in
theorem cellsNew_any (n eb : Nat) (hn : 1 ≤ n) (hn2 : n ≤ 200) (w : World) : Calls Tryz.prog 58 #[.int .i64 n, .func (.func 59) #[P0 eb] #[]] w fun e w' => ∃ sb pb, e = .returned (P0 sb) ∧ w.grownBy w' none ∧ w.heap.size ≤ sb ∧ w.heap.size ≤ pb ∧ Str w' sb pb eb n B.kd0 vs0 (fun _ => []) := by
  obtain ⟨i0, hi, hz0, hz1, hz2⟩ := info_parts Tryz.info228c
  go_enter Tryz.func58, Tryz.ntmps58
  go_wp2_with (at_make; go_loud (refine wpList_make_full _ rfl _ _ 204 rfl 0 228 i0 _ 3 Tryz.underlying204 hi hz0 hz1 _ _ _ _ n rfl rfl rfl rfl (by rw [hz2]; omega) (by unfold maxLen; omega) (Nat.zero_le _) ?_))
  intro w3 hown hg3
  have hf3 : Full w3 w.heap.size 228 (n * 3) (n * 3) (plcP (fun _ => false) (fun _ => 0) (fun _ => [])) := by
    rcases hown.2 with ⟨h, _⟩ | ⟨g', cap', cur, h1, h2, h3, h4, h5, h6, h7⟩
    · cases h
    · cases h1
      refine ⟨cur, h3, h6, fun j hj => ?_⟩
      have e1 := congrArg (fun l => l[j]?) h7
      have e2 : (madeCells #[.int .u8 0, .int .i64 0, .slice none 0 0] (n * 3)).toList[j]? = some (plcP (fun _ => false) (fun _ => 0) (fun _ => []) j) := by
        simp only [madeCells, Array.getElem?_toList, Array.getElem?_map, Array.getElem?_range]
        rw [if_pos hj]
        have : j % 3 = 0 ∨ j % 3 = 1 ∨ j % 3 = 2 := by omega
        rcases this with h | h | h <;> simp [h, plcP, kdV, slV]
      simp only [e2, List.getElem?_take] at e1
      rw [if_pos hj] at e1
      simpa using e1
  have HF := hid hf3
  have HG := hid hg3
  clear hown hf3 hg3
  go_wp2_with fail
  go_ret
  refine ⟨w3.heap.size, w.heap.size, rfl, grown_alloc HG.out _, HG.out.size, Nat.le_refl _, ⟨(heap_alloc_new w3 (.cells #[.slice (some ⟨w.heap.size, 0, none⟩) n n, .func (.func 59) #[P0 eb] #[], .pointer none, .int .i64 0, .int .i64 0, .int .i64 0] 207)).trans (by simp [cyV, B.kd0, wrap64]), ⟨HF.out.block (Below.heap_alloc _ _ _ HF.out.lt), fun p _ _ h => (by cases h), fun p q _ _ _ _ h => (by cases h), fun p h => (by cases h)⟩, fun c h => (by cases h)⟩⟩
def eng0 (fs : Value) (q wk t : Int) (b : Nat) : Array Value := #[fs, .int .i64 q, .int .i64 wk, .int .i64 t, Fv 163 #[P0 (b + 2)], Fv 163 #[P0 (b + 4)], Fv 151 #[P0 (b + 5)], Fv 151 #[P0 (b + 6)], Fv 151 #[P0 (b + 7)], Fv 151 #[P0 (b + 8)], Fv 163 #[P0 (b + 10)], Fv 163 #[P0 (b + 12)], Fv 163 #[P0 (b + 14)], Fv 163 #[P0 (b + 16)], Fv 101 #[], Fv 102 #[], Fv 163 #[P0 (b + 18)], Fv 104 #[], Fv 163 #[P0 (b + 19)], Fv 108 #[], Fv 163 #[P0 (b + 20)], Fv 167 #[P0 (b + 21), P0 (b + 22)], Fv 167 #[P0 (b + 23), P0 (b + 24)], Fv 167 #[P0 (b + 25), P0 (b + 26)], Fv 167 #[P0 (b + 27), P0 (b + 28)], Fv 167 #[P0 (b + 29), P0 (b + 30)], Fv 163 #[P0 (b + 32)], .pointer none, .int .i64 0, .slice none 0 0, .slice none 0 0, .slice none 0 0, .slice none 0 0, .slice none 0 0, .slice none 0 0, .slice none 0 0, .slice none 0 0, .slice none 0 0, .slice none 0 0, .slice none 0 0, .slice none 0 0, .slice none 0 0, .bool false, .slice none 0 0]
def engF (fs : Value) (q wk t : Int) (b : Nat) : Nat → Value := fun j => (eng0 fs q wk t b).getD j undef
theorem engF_full {w : World} {eb : Nat} {fs : Value} {q wk t : Int} {b : Nat} (h : w.heap[eb]? = some (.cells (eng0 fs q wk t b) 144 (0, 0))) : Full w eb 144 44 44 (engF fs q wk t b) := by
  refine ⟨_, h, rfl, fun j hj => ?_⟩
  have hs : (eng0 fs q wk t b).size = 44 := rfl
  unfold engF
  rw [Array.getD_eq_getD_getElem?, Array.getElem?_eq_getElem (by omega)]
  rfl
def Rdy (w w7 : World) (eb sb pb ac g nf n : Nat) (q wk t : Int) : Prop := w.heap.size ≤ eb ∧ w.heap.size ≤ sb ∧ w.heap.size ≤ pb ∧ w.heap.size ≤ ac ∧ Below w.heap.size w w7 ∧ (∀ k x, (actB (ac + 1))[k]? = some x → w7.heap[ac + 1 + k]? = some (.cells #[x.1] x.2 (0, 0))) ∧ Str w7 sb pb eb n B.kd0 vs0 (fun _ => []) ∧ Full w7 eb 144 44 44 (upd (engF (.slice (some ⟨g, 0, none⟩) nf nf) q wk t ac) 27 (P0 sb))
set_option maxRecDepth 100000 in
set_option maxHeartbeats 4000000 in
theorem engNewL (g nf : Nat) (c1 c2 c3 : Int) (cl : Nat) (R : Nat → World → Prop) (w : World) (hc1 : 1 ≤ cl) (hc2 : cl ≤ 200)
    (H : ∀ w7 eb sb pb ac, Rdy w w7 eb sb pb ac g nf cl c1 c2 c3 → Calls Tryz.prog 60 #[P0 eb, .int .i64 0, vA (0, 0), vA (0, 0)] w7 fun e w' => (∃ x : Int, e = .returned (.int .i64 x)) ∧ Below w.heap.size w7 w' ∧ R eb w') :
    Calls Tryz.prog 38 #[.slice (some ⟨g, 0, none⟩) nf nf, .agg #[.int .i64 cl, .int .i64 c1, .int .i64 c2, .int .i64 c3]] w fun e w' => ∃ eb, e = .returned (P0 eb) ∧ Below w.heap.size w w' ∧ R eb w' := by
  have HH := hid H
  clear H
  go_enter Tryz.func38, Tryz.ntmps38
  go_wp2_with fail
  generalize hw1 : w.alloc (.cells #[.int .i64 cl, .int .i64 c1, .int .i64 c2, .int .i64 c3] 23) = w1
  have hz1 : w1.heap.size = w.heap.size + 1 := by rw [← hw1]; simp
  have b0 : w1.cell? ⟨w.heap.size, 0, none⟩ = some (.int .i64 cl) := by rw [← hw1]; simp [go_sem]
  have b1 : w1.cell? ⟨w.heap.size, 1, none⟩ = some (.int .i64 c1) := by rw [← hw1]; simp [go_sem]
  have b2 : w1.cell? ⟨w.heap.size, 2, none⟩ = some (.int .i64 c2) := by rw [← hw1]; simp [go_sem]
  have b3 : w1.cell? ⟨w.heap.size, 3, none⟩ = some (.int .i64 c3) := by rw [← hw1]; simp [go_sem]
  have KB1 : Hid (Below w.heap.size w w1) := by show Below _ _ _; rw [← hw1]; exact (Below.refl _ _).alloc (Nat.le_refl _) _
  clear hw1
  generalize hN : w.heap.size = N at *
  have l0 : N < w1.heap.size := by omega
  have hS : Hid (w1.drew.heap.size = N + 1) := hz1
  go_cut [5] from 6 to 15 (fun x wx => ∃ (w2 : World), x = P0 w2.heap.size ∧ wx = w2.alloc (.cells (eng0 (.slice (some ⟨g, 0, none⟩) nf nf) c1 c2 c3 (N + 1)) 144) ∧ Hid (Below w1.heap.size w1 w2) ∧ w2.heap.size = N + 34 ∧ Hid (∀ k x, (actB (N + 1 + 1))[k]? = some x → w2.heap[N + 1 + 1 + k]? = some (.cells #[x.1] x.2 (0, 0))))
  case first =>
    go_region_with (go_at_call 57; refine (actions_b (N + 1) w1.drew hS).mono ?_; rintro e w2 ⟨rfl, hB2, hz2, ha2⟩; have b1' : w2.cell? ⟨N, 1, none⟩ = some (.int .i64 c1) := ((hB2.cell (p := ⟨N, 1, none⟩) l0).trans b1); have b2' : w2.cell? ⟨N, 2, none⟩ = some (.int .i64 c2) := ((hB2.cell (p := ⟨N, 2, none⟩) l0).trans b2); have b3' : w2.cell? ⟨N, 3, none⟩ = some (.int .i64 c3) := ((hB2.cell (p := ⟨N, 3, none⟩) l0).trans b3); have HA2 := hid ha2; clear ha2)
    all_goals
      go_wp2_with fail
      go_meet
      case rel => exact ⟨w2, by rw [hz2], rfl, ⟨hB2.os, hB2.tape, hB2.output, hB2.size, hB2.block⟩, hz2, HA2⟩
  case rest =>
    obtain ⟨w2, rfl, hwx, hB2, hz2, HA2⟩ := hcut
    have hz3 : wc.heap.size = N + 35 := by rw [hwx]; simp; omega
    have KB3 : Hid (Below N w wc) := by
      show Below _ _ _
      rw [hwx]
      exact (KB1.out.trans (hB2.out.mono (by omega))).alloc (by omega) _
    have HA3 : Hid (∀ k x, (actB (N + 1 + 1))[k]? = some x → wc.heap[N + 1 + 1 + k]? = some (.cells #[x.1] x.2 (0, 0))) := fun k x hx => by
      have := HA2.out k x hx
      rw [hwx, Below.heap_alloc _ _ _ (heap_lt this)]; exact this
    have c0' : wc.cell? ⟨N, 0, none⟩ = some (.int .i64 cl) := by
      have e1 : wc.cell? ⟨N, 0, none⟩ = w2.cell? ⟨N, 0, none⟩ := by rw [hwx]; exact World.cell?_of_block (Below.heap_alloc _ _ _ (by show N < _; omega))
      rw [e1]
      exact (hB2.out.cell (p := ⟨N, 0, none⟩) l0).trans b0
    have hbE : wc.heap[N + 34]? = some (.cells (eng0 (.slice (some ⟨g, 0, none⟩) nf nf) c1 c2 c3 (N + 1)) 144 (0, 0)) := by rw [hwx, ← hz2]; exact heap_alloc_new _ _
    have KE3 := hid (engF_full hbE)
    obtain ⟨e26, f26⟩ := KE3.out.cells 27 (by omega)
    have e26 : wc.cell? ⟨N + 34, 27, none⟩ = some (.pointer none) := e26
    rw [hz2]
    clear hwx hbE hB2 b0 b1 b2 b3 KB1 hz1 l0 hS hz2 HA2
    generalize hE : N + 34 = eb at *
    go_wp2_with fail
    refine (cellsNew_any cl eb hc1 hc2 _).mono ?_
    rintro e w4 ⟨sb, pb, rfl, hg4, hsb, hpb, hS4⟩
    have hz4 := hg4.size
    have KE4 := hid (KE3.out.block (hg4.block eb (by omega) (by intro e; cases e)))
    obtain ⟨d26, g26⟩ := KE4.out.cells 27 (by omega)
    have d26 : w4.cell? ⟨eb, 27, none⟩ = some (.pointer none) := d26
    have KB4 : Hid (Below N w w4) := KB3.out.trans ((below_none hg4).mono (by omega))
    have HS4 := hid hS4
    have HA4 : Hid (∀ k x, (actB (N + 1 + 1))[k]? = some x → w4.heap[N + 1 + 1 + k]? = some (.cells #[x.1] x.2 (0, 0))) := fun k x hx => grown_out hg4 (HA3.out k x hx)
    have le4 : eb < w4.heap.size := by omega
    clear hg4 hS4 e26 f26 KE3 KB3 HA3 c0'
    go_wp2_with fail
    refine (number_any 0 _).mono ?_
    rintro e w5 ⟨rfl, rfl⟩
    go_wp2_with fail
    refine (number_any 0 _).mono ?_
    rintro e w6 ⟨rfl, rfl⟩
    go_wp2_with fail
    generalize hW : ((w4.setCell ⟨eb, 27, none⟩ (P0 sb)).alloc (.cells #[.int .i64 0, .int .i64 0] 149)).alloc (.cells #[.int .i64 0, .int .i64 0] 149) = w7
    have hz7 : w7.heap.size = w4.heap.size + 2 := by rw [← hW]; simp [World.setCell]
    have hb7 : ∀ k, k < w4.heap.size → k ≠ eb → w7.heap[k]? = w4.heap[k]? := fun k hk hne => by rw [← hW, Below.heap_alloc _ _ _ (by simp [World.setCell]; omega), Below.heap_alloc _ _ _ (by simp [World.setCell]; omega), Below.heap_setCell _ _ _ _ hne]
    have KE7 : Hid (Full w7 eb 144 44 44 (upd (engF (.slice (some ⟨g, 0, none⟩) nf nf) c1 c2 c3 (N + 1)) 27 (P0 sb))) := by
      show Full _ _ _ _ _ _
      rw [← hW]
      exact ((KE4.out.upd 27 _).block (Below.heap_alloc _ _ _ (by simp [World.setCell]; omega))).block (Below.heap_alloc _ _ _ (by simp [World.setCell]; omega))
    have KB7 : Hid (Below N w w7) := by
      show Below _ _ _
      rw [← hW]
      exact ((KB4.out.setCell (by show N ≤ eb; omega) _).alloc (by simp [World.setCell]; omega) _).alloc (by simp [World.setCell]; omega) _
    have HS7 : Hid (Str w7 sb pb eb cl B.kd0 vs0 (fun _ => [])) := HS4.out.block (hb7 sb (heap_lt HS4.out.b) (by omega)) (hb7 pb HS4.out.p.p.lt (by omega)) (fun k hk => by
      rcases hk with ⟨p, _, _, h, _⟩ | ⟨h, _⟩
      · cases h
      · cases h)
    have HA7 : Hid (∀ k x, (actB (N + 1 + 1))[k]? = some x → w7.heap[N + 1 + 1 + k]? = some (.cells #[x.1] x.2 (0, 0))) := fun k x hx => by
      have h := HA4.out k x hx
      refine (hb7 _ (heap_lt h) ?_).trans h
      intro e
      rw [e] at h
      obtain ⟨c5, h5, h6, _⟩ := KE4.out
      rw [h5] at h; injection h with h; injection h with h _ _
      rw [h] at h6; simp at h6
    clear hW hb7 KE4 KB4 HS4 HA4 d26 g26
    have HRD : Hid (Rdy w w7 eb sb pb (N + 1) g nf cl c1 c2 c3) := ⟨by omega, by omega, by omega, by omega, by rw [hN]; exact KB7.out, HA7.out, HS7.out, KE7.out⟩
    refine (HH.out w7 eb sb pb (N + 1) HRD.out).mono ?_
    rintro e w8 ⟨⟨x, rfl⟩, hB8, hR8⟩
    have HB8 : Hid (Below N w w8) := KB7.out.trans hB8
    have HR := hid hR8
    clear hB8 hR8
    go_wp2_with fail
    go_ret
    exact ⟨eb, rfl, by rw [hN]; exact HB8.out, HR.out⟩
end Go.Proofs.YtnjiinbhbjpfkaaGreatDoor
namespace Go.Proofs.YtnjiinbhbjpfkaaGreatDoor.F
open Go.RowKit
theorem str_new {w : World} {sb pb eb n : Nat} (h : Go.Proofs.YtnjiinbhbjpfkaaGreatDoor.Str w sb pb eb n B.kd0 Go.Proofs.YtnjiinbhbjpfkaaGreatDoor.vs0 (fun _ => [])) : Str w sb pb eb n B.kd0 vs0 (fun _ => []) := by
  refine ⟨h.b, ⟨h.p.p.congr (fun j _ => ?_), fun p _ _ hp => (by cases hp), fun p q _ _ _ _ hp => (by cases hp), fun p hp => (by cases hp), fun p hp => (by cases hp)⟩, fun c hc => (by cases hc)⟩
  unfold Go.Proofs.YtnjiinbhbjpfkaaGreatDoor.plcP plcP
  rfl
def s00 : Pl := ⟨0, fun _ => tsk0, fun _ _ => [], [], [], [], [], fun _ => [], false, 0, B.kd0, fun _ => [], fun _ => 0⟩
def g00 : Geo := ⟨fun _ => 0, fun _ _ => (none, 0), fun _ _ => 0, fun _ _ => 0, fun _ => 0, fun _ => 0, fun _ => 0, fun _ => 0, 0, 0, none, 0⟩
theorem ok00 (p : Prm) : Ok p s00 := by
  have hr : rootsL p s00 = [] := rfl
  refine { lw := ⟨fun t ht => ?_, fun x y _ t ht => ?_, fun x y _ => List.nodup_nil, Nat.zero_le _⟩, ww := fun t ht => ?_, nd := List.nodup_nil, lt := fun u hu => ?_, ql := fun x y _ t ht => ?_, lf := fun u hu => ?_, rn := fun u hu => ?_, ol := rfl, ok := fun v hv => ?_, kn := List.nodup_nil, kz := fun v hv => ?_, fw := fun u hu => ?_, hl := ?_, fc := fun k _ _ _ => Nat.zero_le _, bt := fun k => ⟨Nat.zero_le _, fun x hx => ?_⟩, c0 := Int.le_refl _, c1 := by show (0 : Int) ≤ _; omega }
  · have h1 := ht.1
    have h2 : t ≤ 0 := ht.2
    omega
  · cases ht
  · have h1 := ht.1
    have h2 : t ≤ 0 := ht.2
    omega
  · cases hu
  · cases ht
  · have h1 := hu.1
    have h2 : u ≤ 0 := hu.2
    omega
  · have h1 := hu.1
    have h2 : u ≤ 0 := hu.2
    omega
  · cases hv
  · cases hv
  · cases hu
  · rw [hr]
    exact ⟨fun i hi => absurd hi (Nat.not_lt_zero _), fun p _ v hv => (by cases hv), fun c hc => (by cases hc)⟩
  · cases hx
section
variable (w7 : World) (s : ByteArray) (eb sb pb ac g n q wk t : Nat) (gs : Nat → Nat)
def prm0 : Prm := ⟨eb, sb, pb, n, M.bt s 0, g, gs, fun k => M.bt s (M.pos s k + 1), fun k => M.bt s (M.pos s k), fun k i => insAt s (M.pos s k + 2 + 4 * i), q, wk, t, ac + 1, upd (engF (.slice (some ⟨g, 0, none⟩) (M.bt s 0) (M.bt s 0)) q wk t ac) 27 (P0 sb), fun k => k = g ∨ (∃ f, f < M.bt s 0 ∧ k = gs f) ∨ (ac + 1 ≤ k ∧ k < ac + 33), fun k => w7.heap[k]?⟩
end
structure Pre0 (w7 : World) (s : ByteArray) (eb sb pb ac g n q wk t : Nat) (gs : Nat → Nat) : Prop where
  ok : (M.prg s).2 = true
  n1 : 1 ≤ n
  n2 : n ≤ 200
  hg : Full w7 g 178 (M.bt s 0 * 2) (M.bt s 0 * 2) (fnsP s gs)
  hf : ∀ k, k < M.bt s 0 → 2 ≤ M.bt s (M.pos s k) ∧ M.bt s (M.pos s k) ≤ 8 ∧ 1 ≤ M.bt s (M.pos s k + 1) ∧ M.bt s (M.pos s k + 1) ≤ 200 ∧ Full w7 (gs k) 183 (M.bt s (M.pos s k + 1) * 4) (M.bt s (M.pos s k + 1) * 4) (codeP s (M.pos s k + 2))
  ha : ∀ k x, (actB (ac + 1))[k]? = some x → w7.heap[ac + 1 + k]? = some (.cells #[x.1] x.2 (0, 0))
  st : Str w7 sb pb eb n B.kd0 vs0 (fun _ => [])
  en : Full w7 eb 144 44 44 (upd (engF (.slice (some ⟨g, 0, none⟩) (M.bt s 0) (M.bt s 0)) q wk t ac) 27 (P0 sb))
section
variable {w7 : World} {s : ByteArray} {eb sb pb ac g n q wk t : Nat} {gs : Nat → Nat} (h : Pre0 w7 s eb sb pb ac g n q wk t gs)
include h
theorem Pre0.box {j : Nat} (hj : j < 32) : w7.heap[ac + 1 + j]? = some (.cells #[((actB (ac + 1)).getD j (undef, 0)).1] ((actB (ac + 1)).getD j (undef, 0)).2 (0, 0)) := by
  have hl : (actB (ac + 1)).length = 32 := rfl
  have := h.ha j _ (List.getElem?_eq_getElem (by rw [hl]; exact hj))
  rw [this, List.getD_eq_getElem?_getD, List.getElem?_eq_getElem (by rw [hl]; exact hj)]
  rfl
theorem Pre0.pw : PW (prm0 w7 s eb sb pb ac g n q wk t gs) := by
  have hfix : ∀ w, Fix (prm0 w7 s eb sb pb ac g n q wk t gs) w → ∀ k, (k = g ∨ (∃ f, f < M.bt s 0 ∧ k = gs f) ∨ (ac + 1 ≤ k ∧ k < ac + 33)) → w.heap[k]? = w7.heap[k]? := fun w hw k hk => hw k hk
  refine ⟨h.n1, h.n2, rfl, rfl, rfl, rfl, rfl, Or.inl rfl, fun w hw f hf => ?_, fun f hf => ⟨(h.hf f hf).1, (h.hf f hf).2.1⟩, fun o ho => ?_, fun w hw j hj => ?_, fun w hw f hf => ?_, fun f hf => (h.hf f hf).2.2.2.1⟩
  · have hG := h.hg.block (hfix w hw g (Or.inl rfl))
    have hf' : f < M.bt s 0 := hf
    have c0 := hG.cell (f * 2) (by omega)
    have c1 := hG.cell (f * 2 + 1) (by omega)
    refine ⟨c0.trans ?_, c1.trans ?_⟩
    · unfold fnsP
      rw [if_pos (by omega), show f * 2 / 2 = f by omega]
      rfl
    · unfold fnsP
      rw [if_neg (by omega), show (f * 2 + 1) / 2 = f by omega]
      rfl
  · have hc : o = 0 ∨ o = 1 ∨ o = 2 ∨ o = 3 ∨ o = 4 ∨ o = 5 ∨ o = 6 ∨ o = 7 ∨ o = 8 ∨ o = 9 ∨ o = 10 ∨ o = 11 ∨ o = 12 ∨ o = 13 ∨ o = 14 ∨ o = 15 ∨ o = 16 ∨ o = 17 ∨ o = 18 ∨ o = 19 ∨ o = 20 ∨ o = 21 ∨ o = 22 := by omega
    rcases hc with rfl | rfl | rfl | rfl | rfl | rfl | rfl | rfl | rfl | rfl | rfl | rfl | rfl | rfl | rfl | rfl | rfl | rfl | rfl | rfl | rfl | rfl | rfl <;> rfl
  · have hb := h.box hj
    have e : w.heap[ac + 1 + j]? = w7.heap[ac + 1 + j]? := hfix w hw _ (Or.inr (Or.inr ⟨by omega, by omega⟩))
    rw [hb] at e
    refine ⟨?_, e⟩
    show w.cell? ⟨ac + 1 + j, 0, none⟩ = _
    simp only [World.cell?, e]
    rfl
  · have hC := (h.hf f hf).2.2.2.2.block (hfix w hw (gs f) (Or.inr (Or.inl ⟨f, hf, rfl⟩)))
    refine ⟨hC.lt, fun i hi => ?_⟩
    have hi' : i < M.bt s (M.pos s f + 1) := hi
    refine ⟨(hC.cell (i * 4) (by omega)).trans ?_, (hC.cell (i * 4 + 1) (by omega)).trans ?_, (hC.cell (i * 4 + 2) (by omega)).trans ?_, (hC.cell (i * 4 + 3) (by omega)).trans ?_⟩
    · show some (Value.int .u8 (M.bt s (M.pos s f + 2 + i * 4) : Int)) = some (Value.int .u8 (M.bt s (M.pos s f + 2 + 4 * i) : Int))
      rw [Nat.mul_comm]
    · show some (Value.int .u8 (M.bt s (M.pos s f + 2 + (i * 4 + 1)) : Int)) = some (Value.int .u8 (M.bt s (M.pos s f + 2 + 4 * i + 1) : Int))
      rw [Nat.mul_comm]; rfl
    · show some (Value.int .u8 (M.bt s (M.pos s f + 2 + (i * 4 + 2)) : Int)) = some (Value.int .u8 (M.bt s (M.pos s f + 2 + 4 * i + 2) : Int))
      rw [Nat.mul_comm]; rfl
    · show some (Value.int .u8 (M.bt s (M.pos s f + 2 + (i * 4 + 3)) : Int)) = some (Value.int .u8 (M.bt s (M.pos s f + 2 + 4 * i + 3) : Int))
      rw [Nat.mul_comm]; rfl
theorem Pre0.pi : PI (prm0 w7 s eb sb pb ac g n q wk t gs) := prg_PI h.ok (fun _ => rfl) rfl (fun _ => rfl) (fun _ _ => rfl)
theorem Pre0.fxd {k : Nat} (hk : (prm0 w7 s eb sb pb ac g n q wk t gs).fx k) : k < w7.heap.size ∧ k ≠ eb ∧ k ≠ sb ∧ k ≠ pb := by
  have hs := h.st.b
  have hp := h.st.p.p
  have hn := h.n1
  rcases hk with rfl | ⟨f, hf, rfl⟩ | ⟨h1, h2⟩
  · refine ⟨h.hg.lt, h.hg.ne h.en (by decide), ?_, h.hg.ne hp (by decide)⟩
    obtain ⟨cur, c1, _⟩ := h.hg
    exact fun e => by rw [e, hs] at c1; injection c1 with c1; injection c1 with _ c2 _; exact absurd c2 (by decide)
  · have hC := (h.hf f hf).2.2.2.2
    refine ⟨hC.lt, hC.ne h.en (by decide), ?_, hC.ne hp (by decide)⟩
    obtain ⟨cur, c1, _⟩ := hC
    exact fun e => by rw [e, hs] at c1; injection c1 with c1; injection c1 with _ c2 _; exact absurd c2 (by decide)
  · obtain ⟨j, rfl⟩ : ∃ j, k = ac + 1 + j := ⟨k - (ac + 1), by omega⟩
    have hb := h.box (j := j) (by omega)
    refine ⟨heap_lt hb, fun e => ?_, fun e => ?_, fun e => ?_⟩
    · obtain ⟨cur, c1, c2, _⟩ := h.en
      rw [e, c1] at hb
      injection hb with hb
      injection hb with hb _ _
      rw [hb] at c2
      simp at c2
    · rw [e, hs] at hb
      injection hb with hb
      injection hb with hb _ _
      have := congrArg Array.size hb
      simp at this
    · obtain ⟨cur, c1, c2, _⟩ := hp
      rw [e, c1] at hb
      injection hb with hb
      injection hb with hb _ _
      rw [hb] at c2
      simp at c2
      omega
theorem Pre0.rep : Rep (prm0 w7 s eb sb pb ac g n q wk t gs) s00 g00 w7 := by
  have hs := h.st.b
  have hp := h.st.p.p
  have hsp : eb ≠ sb ∧ eb ≠ pb := by
    refine ⟨fun e => ?_, h.en.ne hp (by decide)⟩
    obtain ⟨cur, c1, _⟩ := h.en
    rw [e, hs] at c1; injection c1 with c1; injection c1 with _ c2 _; exact absurd c2 (by decide)
  have hsb : ∀ k, Sbk sb pb n B.kd0 (vsOf s00 g00) k → k = sb ∨ k = pb := fun k hk => by
    rcases hk with h1 | h1 | ⟨_, _, _, h1, _⟩ | ⟨h1, _⟩
    · exact Or.inl h1
    · exact Or.inr h1
    · cases h1
    · cases h1
  have hval : ∀ x y z, vld s00 x y z = true → (x = 0 ∨ x = 1 ∨ x = 18 ∨ rowx x) ∧ z = 0 ∧ (x ≤ 1 ∨ x = 18 → y = 0) := fun x y z hv => by
    have hle := vld_le hv
    by_cases a : x = 5 ∨ x = 11 ∨ x = 12 ∨ x = 15 ∨ x = 16
    · have := (vld_it hv a).1
      have h1 := this.1
      have h2 : y ≤ 0 := this.2
      omega
    · by_cases b : x = 13 ∨ x = 14
      · have := (vld_if hv b).1
        have h1 := this.1
        have h2 : y ≤ 0 := this.2
        omega
      · by_cases c : x = 17
        · subst c
          have := (vld_i17 hv).1
          have h1 := this.1
          have h2 : y ≤ 0 := this.2
          omega
        · by_cases d : x = 4 ∨ x = 10
          · have := (vld_i4 hv d).2
            unfold rowx
            omega
          · have := vld_i0 hv (by omega)
            unfold rowx
            omega
  refine ⟨fun x y z => ?_, fun x y z x' y' z' k hk hk' => ?_⟩
  · by_cases hv : vld s00 x y z = true
    · obtain ⟨hx, hz, hy⟩ := hval x y z hv
      rw [ob_v hv]
      rcases hx with rfl | rfl | rfl | hx
      · show Full w7 eb 144 44 44 (engE (prm0 w7 s eb sb pb ac g n q wk t gs) s00 g00)
        refine h.en.congr (fun j hj => ?_)
        unfold engE
        by_cases e1 : j < 28
        · rw [if_pos e1]; rfl
        · rw [if_neg e1]
          have hc : j = 28 ∨ j = 29 ∨ j = 30 ∨ j = 31 ∨ j = 32 ∨ j = 33 ∨ j = 34 ∨ j = 35 ∨ j = 36 ∨ j = 37 ∨ j = 38 ∨ j = 39 ∨ j = 40 ∨ j = 41 ∨ j = 42 ∨ j = 43 := by omega
          rcases hc with rfl | rfl | rfl | rfl | rfl | rfl | rfl | rfl | rfl | rfl | rfl | rfl | rfl | rfl | rfl | rfl <;> rfl
      · exact h.st
      · show ∀ k, _ → k < w7.heap.size ∧ w7.heap[k]? = _
        intro k hk
        exact ⟨(h.fxd hk).1, rfl⟩
      · rw [obk_row hx]
        have hl : rlen s00 x y = 0 := by unfold rlen s00; simp [tsk0]
        have hc : rcon s00 g00 x y = [] := by unfold rcon s00; simp [tsk0, valL, evT, bytL]
        show w7.ownsRow 0 (rty x) (rsz x) (.slice (g00.ro x y).1 (rlen s00 x y) (g00.ro x y).2) (rlen s00 x y) (rcon s00 g00 x y)
        rw [hl, hc]
        exact World.ownsRow_nil _ _ _ _
    · rw [ob_n hv]; trivial
  · have key : ∀ x y z, (ob (prm0 w7 s eb sb pb ac g n q wk t gs) s00 g00 x y z).bs k → y = 0 ∧ z = 0 ∧ ((x = 0 ∧ k = eb) ∨ (x = 1 ∧ (k = sb ∨ k = pb)) ∨ (x = 18 ∧ (prm0 w7 s eb sb pb ac g n q wk t gs).fx k)) := fun x y z hk => by
      by_cases hv : vld s00 x y z = true
      · obtain ⟨hx, hz, hy⟩ := hval x y z hv
        rw [ob_v hv] at hk
        rcases hx with rfl | rfl | rfl | hx
        · exact ⟨hy (by omega), hz, Or.inl ⟨rfl, hk⟩⟩
        · exact ⟨hy (by omega), hz, Or.inr (Or.inl ⟨rfl, hsb k hk⟩)⟩
        · exact ⟨hy (by omega), hz, Or.inr (Or.inr ⟨rfl, hk⟩)⟩
        · rw [obk_row hx] at hk
          cases hk
      · rw [ob_n hv] at hk
        exact hk.elim
    obtain ⟨a1, a2, a3⟩ := key x y z hk
    obtain ⟨b1, b2, b3⟩ := key x' y' z' hk'
    refine ⟨?_, by omega, by omega⟩
    rcases a3 with ⟨e1, e2⟩ | ⟨e1, e2⟩ | ⟨e1, e2⟩
    · rcases b3 with ⟨f1, f2⟩ | ⟨f1, f2⟩ | ⟨f1, f2⟩
      · omega
      · have := hsp; omega
      · have := (h.fxd f2).2.1; omega
    · rcases b3 with ⟨f1, f2⟩ | ⟨f1, f2⟩ | ⟨f1, f2⟩
      · have := hsp; omega
      · omega
      · have := (h.fxd f2).2.2; omega
    · rcases b3 with ⟨f1, f2⟩ | ⟨f1, f2⟩ | ⟨f1, f2⟩
      · have := (h.fxd e2).2.1; omega
      · have := (h.fxd e2).2.2; omega
      · omega
end
theorem Tr.below {p : Prm} {s s' : Pl} {g g' : Geo} {w w' : World} {N : Nat} (h : Rep p s g w) (hT : Tr p s g w s' g' w') (hM : ∀ k, Mine p s g k → N ≤ k ∨ p.fx k) (hN : N ≤ w.heap.size) : Below N w w' := by
  refine ⟨hT.o.1, hT.o.2.1, hT.o.2.2.1, hT.o.size, fun k hk => ?_⟩
  by_cases hm : Mine p s g k
  · have hf := (hM k hm).resolve_left (by omega)
    rw [(hT.r.X k hf).2, (h.X k hf).2]
  · exact hT.o.same (by omega) hm
end Go.Proofs.YtnjiinbhbjpfkaaGreatDoor.F
namespace Go.Proofs.YtnjiinbhbjpfkaaGreatDoor
open Go.RowKit
def Read3 (s : ByteArray) (w w' : World) (e : Ending) (r : Nat × Bool) : Prop := ∃ (ad : Option Addr) (n c : Nat), e = .returned (.tuple #[.slice ad n c, .int .i64 (if r.2 = true then 0 else (r.1 : Int)), .bool r.2]) ∧
  (r.2 = true → n = M.bt s 0 ∧ c = n ∧ 1 ≤ n ∧ n ≤ 8 ∧ ∃ g, ad = some ⟨g, 0, none⟩ ∧ Fns w' s w.heap.size g n n)
set_option maxHeartbeats 400000 in
theorem read_any (s : ByteArray) (w : World) (hs : s.size ≤ maxLen) (hT : Tab w) :
    Calls Tryz.prog 37 #[.string s] w fun e w' => Read3 s w w' e (M.prg s) ∧ Below w.heap.size w w' := by
  have hn : w.heap.size ≠ 0 := by have := hT.1; omega
  have HS : Hid (s.size ≤ maxLen) := hs
  have KT0 : Hid (Tab w) := hT
  clear hs hT
  go_enter Tryz.func37, Tryz.ntmps37
  go_wp2_with fail
  refine (program_any w.heap.size s 0 0 0 (w.alloc (.cells #[.string s, .int .i64 0, .int .i64 0, .int .i64 0, .int .i64 0] 128)) (heap_alloc_new w _) HS.out hn (KT0.out.alloc _)).mono ?_
  rintro e w1 ⟨⟨ad, n, c, rfl, hA⟩, f', r', l', hh, hg⟩
  have HA : Hid ((M.prg s).2 = true → n = M.bt s 0 ∧ c = n ∧ 1 ≤ n ∧ n ≤ 8 ∧ ∃ g, ad = some ⟨g, 0, none⟩ ∧ Fns w1 s w.heap.size g n n) := fun h => by
    obtain ⟨a1, a2, a3, a4, g, a5, a6, a7⟩ := hA h
    exact ⟨a1, a2, a3, a4, g, a5, by have := a6; simp at this; omega, a7⟩
  clear hA
  have hB := below_of_grown hg
  obtain ⟨x0, x1, _, _, _⟩ := rdA_cells hh
  clear hh hg
  generalize hR : M.prg s = R at *
  have HR : Hid (M.prg s = R) := hR
  clear hR
  obtain ⟨P, ok⟩ := R
  cases ok
  · go_wp2_with fail
    go_quiet (fail)
    go_wp2_with fail
    go_ret3
    exact ⟨by rw [HR.out]; exact ⟨_, _, _, rfl, fun h => by cases h⟩, below_drewN hB _⟩
  · go_wp2_with fail
    go_ret3
    exact ⟨by rw [HR.out]; exact ⟨_, _, _, rfl, fun _ => HA.out trivial⟩, hB⟩
def inB (n m : Int) : Bool := decide (1 ≤ n ∧ n ≤ m)
theorem within_any (n m : Int) (w : World) : Calls Tryz.prog 55 #[.int .i64 n, .int .i64 m] w fun e w' => e = .returned (.bool (inB n m)) ∧ w' = w := by
  by_cases h1 : 1 ≤ n
  · by_cases h2 : n ≤ m
    · have e : inB n m = true := by simp [inB]; omega
      rw [e]; clear e
      go_enter Tryz.func55, Tryz.ntmps55
      go_wp2
      go_ret
      exact ⟨rfl, rfl⟩
    · have e : inB n m = false := by simp [inB]; omega
      rw [e]; clear e
      have h3 : decide (n ≤ m) = false := by simpa using h2
      go_enter Tryz.func55, Tryz.ntmps55
      go_wp2
      go_ret
      exact ⟨rfl, rfl⟩
  · have e : inB n m = false := by simp [inB]; omega
    rw [e]; clear e
    have h3 : decide (1 ≤ n) = false := by simpa using h1
    go_enter Tryz.func55, Tryz.ntmps55
    go_wp2
    go_ret
    exact ⟨rfl, rfl⟩
def okC (c0 c1 c2 c3 : Int) : Bool := inB c0 200 && (inB c1 50 && (inB c2 50 && inB c3 16))
theorem maybe_any (c0 c1 c2 c3 : Int) (w : World) : Calls Tryz.prog 36 #[.agg #[.int .i64 c0, .int .i64 c1, .int .i64 c2, .int .i64 c3]] w fun e w' => e = .returned (.bool (okC c0 c1 c2 c3)) ∧ Below w.heap.size w w' := by
  unfold okC
  cases h0 : inB c0 200
  · have H0 : Hid (inB c0 200 = false) := h0
    clear h0
    go_enter Tryz.func36, Tryz.ntmps36
    go_wp2_with fail
    refine (within_any _ _ _).mono ?_
    rintro e w1 ⟨rfl, rfl⟩
    rw [H0.out]
    go_wp2_with fail
    go_ret
    exact ⟨rfl, (Below.refl _ _).alloc (Nat.le_refl _) _⟩
  · cases h1 : inB c1 50
    · have H0 : Hid (inB c0 200 = true) := h0
      have H1 : Hid (inB c1 50 = false) := h1
      clear h0 h1
      go_enter Tryz.func36, Tryz.ntmps36
      go_wp2_with fail
      refine (within_any _ _ _).mono ?_
      rintro e w1 ⟨rfl, rfl⟩
      rw [H0.out]
      go_wp2_with fail
      refine (within_any _ _ _).mono ?_
      rintro e w1 ⟨rfl, rfl⟩
      rw [H1.out]
      go_wp2_with fail
      go_ret
      exact ⟨rfl, (Below.refl _ _).alloc (Nat.le_refl _) _⟩
    · cases h2 : inB c2 50
      · have H0 : Hid (inB c0 200 = true) := h0
        have H1 : Hid (inB c1 50 = true) := h1
        have H2 : Hid (inB c2 50 = false) := h2
        clear h0 h1 h2
        go_enter Tryz.func36, Tryz.ntmps36
        go_wp2_with fail
        refine (within_any _ _ _).mono ?_
        rintro e w1 ⟨rfl, rfl⟩
        rw [H0.out]
        go_wp2_with fail
        refine (within_any _ _ _).mono ?_
        rintro e w1 ⟨rfl, rfl⟩
        rw [H1.out]
        go_wp2_with fail
        refine (within_any _ _ _).mono ?_
        rintro e w1 ⟨rfl, rfl⟩
        rw [H2.out]
        go_wp2_with fail
        go_ret
        exact ⟨rfl, (Below.refl _ _).alloc (Nat.le_refl _) _⟩
      · have H0 : Hid (inB c0 200 = true) := h0
        have H1 : Hid (inB c1 50 = true) := h1
        have H2 : Hid (inB c2 50 = true) := h2
        clear h0 h1 h2
        generalize hx : inB c3 16 = x
        have H3 : Hid (inB c3 16 = x) := hx
        clear hx
        go_enter Tryz.func36, Tryz.ntmps36
        go_wp2_with fail
        refine (within_any _ _ _).mono ?_
        rintro e w1 ⟨rfl, rfl⟩
        rw [H0.out]
        go_wp2_with fail
        refine (within_any _ _ _).mono ?_
        rintro e w1 ⟨rfl, rfl⟩
        rw [H1.out]
        go_wp2_with fail
        refine (within_any _ _ _).mono ?_
        rintro e w1 ⟨rfl, rfl⟩
        rw [H2.out]
        go_wp2_with fail
        refine (within_any _ _ _).mono ?_
        rintro e w1 ⟨rfl, rfl⟩
        rw [H3.out]
        go_wp2_with fail
        go_ret
        exact ⟨by simp, (Below.refl _ _).alloc (Nat.le_refl _) _⟩
def told (s : ByteArray) (c0 c1 c2 c3 : Int) : Int × Int × Bool :=
  if okC c0 c1 c2 c3 = true then (if (M.prg s).2 = true then (0, 0, true) else (2, ((M.prg s).1 : Int), false)) else (1, 0, false)
def Bx (w : World) (mb eb : Nat) : Prop := ∃ x, w.heap[mb]? = some (.cells #[.int .i32 0, x, P0 eb] 105 (0, 0))
set_option maxRecDepth 100000 in
set_option maxHeartbeats 1000000 in
theorem loadF_any (s : ByteArray) (c0 c1 c2 c3 : Int) (w : World) (hs : s.size ≤ maxLen) (hT : Tab w) (R : Nat → World → Prop)
    (H : okC c0 c1 c2 c3 = true → (M.prg s).2 = true → ∀ (w1 w2 : World) (g cl : Nat), c0 = (cl : Int) → w.heap.size + 2 ≤ w1.heap.size → Below w.heap.size w w2 → w1.heap.size ≤ w2.heap.size → Fns w2 s w1.heap.size g (M.bt s 0) (M.bt s 0) → Calls Tryz.prog 38 #[.slice (some ⟨g, 0, none⟩) (M.bt s 0) (M.bt s 0), .agg #[.int .i64 cl, .int .i64 c1, .int .i64 c2, .int .i64 c3]] w2 fun e w' => ∃ eb, e = .returned (P0 eb) ∧ Below w2.heap.size w2 w' ∧ R eb w') :
    Calls Tryz.prog 23 #[.string s, .agg #[.int .i64 c0, .int .i64 c1, .int .i64 c2, .int .i64 c3]] w fun e w' => Below w.heap.size w w' ∧ ((∃ x y : Int, e = .returned (.tuple #[.pointer none, .agg #[.int .i64 x, .int .i64 y]]) ∧ ¬ (okC c0 c1 c2 c3 = true ∧ (M.prg s).2 = true)) ∨ (∃ (mb eb : Nat) (w3 : World), e = .returned (.tuple #[P0 mb, .agg #[.int .i64 0, .int .i64 0]]) ∧ R eb w3 ∧ w.heap.size + 2 ≤ mb ∧ mb = w3.heap.size ∧ Bx w' mb eb ∧ ∀ k, k < w3.heap.size → k ≠ w.heap.size + 1 → w'.heap[k]? = w3.heap[k]?)) := by
  have HS : Hid (s.size ≤ maxLen) := hs
  have KT0 : Hid (Tab w) := hT
  have HH := hid H
  clear hs hT H
  go_enter Tryz.func23, Tryz.ntmps23
  go_wp2_with fail
  refine (maybe_any _ _ _ _ _).mono ?_
  rintro e w1 ⟨rfl, hB⟩
  obtain ⟨hc, hf⟩ := bcell hB
  have hz := hB.size
  simp at hz
  have hB1 : Below w.heap.size w w1 := (((Below.refl _ _).alloc (Nat.le_refl _) _).alloc (by simp) _).trans (hB.mono (by simp; omega))
  have KB1 : Hid (Below w.heap.size w w1) := hB1
  clear hB hB1
  cases hok : okC c0 c1 c2 c3
  · have HOK : Hid (okC c0 c1 c2 c3 = false) := hok
    clear hok
    go_wp2_with fail
    refine bodyPost_ret (v := .tuple #[.pointer none, .agg #[.int .i64 1, .int .i64 0]]) (by simp [results, Tryz.results23, go_sem, *]) rfl ⟨?_, Or.inl ⟨1, 0, rfl, fun h => by rw [HOK.out] at h; cases h.1⟩⟩
    · repeat (refine Below.setCell ?_ (by simp) _)
      exact KB1.out
  · have HOK : Hid (okC c0 c1 c2 c3 = true) := hok
    clear hok
    go_wp2_with fail
    refine (read_any s _ HS.out (KT0.out.below KB1.out)).mono ?_
    rintro e w2 ⟨⟨ad, n, c, rfl, hA⟩, hB2⟩
    have HA : Hid ((M.prg s).2 = true → n = M.bt s 0 ∧ c = n ∧ 1 ≤ n ∧ n ≤ 8 ∧ ∃ g, ad = some ⟨g, 0, none⟩ ∧ Fns w2 s w1.heap.size g n n) := hA
    clear hA
    have hz2 := hB2.size
    have l0 : w.heap.size < w1.heap.size := by omega
    have l1 : w.heap.size + 1 < w1.heap.size := by omega
    obtain ⟨hc2, hf2⟩ := bcell hB2
    have d0 : w2.cell? ⟨w.heap.size + 1, 0, none⟩ = some (.int .i64 0) := by rw [hc2 _ _ l1, hc _ _ (by simp)]; simp
    have d1 : w2.cell? ⟨w.heap.size + 1, 1, none⟩ = some (.int .i64 0) := by rw [hc2 _ _ l1, hc _ _ (by simp)]; simp
    have e0 : w2.frozen? ⟨w.heap.size + 1, 0, none⟩ = false := by rw [hf2 _ _ l1, hf _ _ (by simp)]; simp
    have e1 : w2.frozen? ⟨w.heap.size + 1, 1, none⟩ = false := by rw [hf2 _ _ l1, hf _ _ (by simp)]; simp
    have g0 : w2.cell? ⟨w.heap.size, 0, none⟩ = some (.int .i64 c0) := by rw [hc2 _ _ l0, hc _ _ (by simp; omega)]; simp
    have g1 : w2.cell? ⟨w.heap.size, 1, none⟩ = some (.int .i64 c1) := by rw [hc2 _ _ l0, hc _ _ (by simp; omega)]; simp
    have g2 : w2.cell? ⟨w.heap.size, 2, none⟩ = some (.int .i64 c2) := by rw [hc2 _ _ l0, hc _ _ (by simp; omega)]; simp
    have g3 : w2.cell? ⟨w.heap.size, 3, none⟩ = some (.int .i64 c3) := by rw [hc2 _ _ l0, hc _ _ (by simp; omega)]; simp
    have l2 : w.heap.size + 1 < w2.heap.size := by omega
    have l3 : w.heap.size < w2.heap.size := by omega
    have KB2 : Hid (Below w.heap.size w w2) := KB1.out.trans (hB2.mono KB1.out.size)
    have HZ1 : Hid (w.heap.size + 2 ≤ w1.heap.size) := hz
    have HZ2 : Hid (w1.heap.size ≤ w2.heap.size) := hz2
    clear hB2 KB1 hc hf hc2 hf2 hz hz2 l0 l1
    generalize hR : M.prg s = R at *
    have HR : Hid (M.prg s = R) := hR
    clear hR
    obtain ⟨P, ok⟩ := R
    cases ok
    · go_wp2_with fail
      refine bodyPost_ret (v := .tuple #[.pointer none, .agg #[.int .i64 2, .int .i64 P]]) (by simp [results, Tryz.results23, go_sem, d0, d1]) rfl ⟨?_, Or.inl ⟨2, P, rfl, (fun h => by have h2 := h.2; rw [HR.out] at h2; cases h2)⟩⟩
      · repeat (refine Below.setCell ?_ (by simp) _)
        exact KB2.out
    · obtain ⟨hA1, hA2, hA3, hA4, g, hA5, hA6⟩ := HA.out rfl
      subst hA2 hA5
      have HFN : Hid (Fns w2 s w1.heap.size g c c) := hA6
      subst hA1
      clear HA hA6 hA3 hA4
      have hcl : 1 ≤ c0 ∧ c0 ≤ 200 := by have := HOK.out; simp [okC, inB] at this; omega
      obtain ⟨cl, rfl⟩ : ∃ cl : Nat, c0 = (cl : Int) := ⟨c0.toNat, by omega⟩
      go_wp2_with fail
      refine (HH.out HOK.out (by first | rfl | trivial) w1 w2 g cl rfl HZ1.out KB2.out HZ2.out HFN.out).mono ?_
      rintro e w3 ⟨eb, rfl, hB3, hR3⟩
      have HR3 := hid hR3
      clear hR3
      have hz3 := hB3.size
      have KB3 : Hid (Below w.heap.size w w3) := KB2.out.trans (hB3.mono (by omega))
      rw [← hB3.cell (p := ⟨w.heap.size + 1, 0, none⟩) l2] at d0
      rw [← hB3.cell (p := ⟨w.heap.size + 1, 1, none⟩) l2] at d1
      rw [← hB3.frozen (p := ⟨w.heap.size + 1, 0, none⟩) l2] at e0
      rw [← hB3.frozen (p := ⟨w.heap.size + 1, 1, none⟩) l2] at e1
      have l4 : w.heap.size + 1 < w3.heap.size := by omega
      clear hB3 g0 g1 g2 g3 KB2
      go_wp2_with fail
      refine bodyPost_ret (v := .tuple #[.pointer (some ⟨w3.heap.size, 0, none⟩), .agg #[.int .i64 0, .int .i64 0]]) (by simp [results, Tryz.results23, go_sem, d0, d1, l4]) rfl ⟨?_, Or.inr ⟨w3.heap.size, eb, w3, rfl, HR3.out, by omega, rfl, ⟨.int .u32 0, ?_⟩, fun k hk hne => ?_⟩⟩
      · repeat (first | exact KB3.out | refine Below.setCell ?_ (by simp) _ | refine Below.alloc ?_ (by simp [World.setCell]; omega) _)
      · have h1 := heap_alloc_new ((w3.setCell ⟨w.heap.size + 1, 0, none⟩ (.int .i64 0)).setCell ⟨w.heap.size + 1, 1, none⟩ (.int .i64 0)) (.cells #[.int .i32 0, .int .u32 0, P0 eb] 105)
        simpa [World.setCell] using h1
      · have hzA : ((w3.setCell ⟨w.heap.size + 1, 0, none⟩ (.int .i64 0)).setCell ⟨w.heap.size + 1, 1, none⟩ (.int .i64 0)).heap.size = w3.heap.size := by simp [World.setCell]
        rw [Below.heap_alloc _ _ _ (by rw [hzA]; omega), Below.heap_setCell _ _ _ _ (by show k ≠ w.heap.size + 1; omega), Below.heap_setCell _ _ _ _ (by show k ≠ w.heap.size + 1; omega)]
end Go.Proofs.YtnjiinbhbjpfkaaGreatDoor
namespace Go.Proofs.YtnjiinbhbjpfkaaGreatDoor.F
open Go.RowKit
theorem mine00 {p : Prm} {k : Nat} (h : Mine p s00 g00 k) : k = p.eb ∨ k = p.sb ∨ k = p.pb ∨ p.fx k := by
  obtain ⟨x, y, z, hk⟩ := h
  by_cases hv : vld s00 x y z = true
  · rw [ob_v hv] at hk
    have hle := vld_le hv
    by_cases hx : rowx x
    · rw [obk_row hx] at hk
      cases hk
    · have hc : x = 0 ∨ x = 1 ∨ x = 11 ∨ x = 13 ∨ x = 14 ∨ x = 15 ∨ x = 16 ∨ x = 17 ∨ x = 18 := by unfold rowx at hx; omega
      rcases hc with rfl | rfl | rfl | rfl | rfl | rfl | rfl | rfl | rfl
      · exact Or.inl hk
      · rcases hk with h1 | h1 | ⟨_, _, _, h1, _⟩ | ⟨h1, _⟩
        · exact Or.inr (Or.inl h1)
        · exact Or.inr (Or.inr (Or.inl h1))
        · cases h1
        · cases h1
      · have := (vld_it hv (by omega)).1
        have h1 := this.1
        have h2 : y ≤ 0 := this.2
        omega
      · have := (vld_if hv (by omega)).1
        have h1 := this.1
        have h2 : y ≤ 0 := this.2
        omega
      · have := (vld_if hv (by omega)).1
        have h1 := this.1
        have h2 : y ≤ 0 := this.2
        omega
      · have := (vld_it hv (by omega)).1
        have h1 := this.1
        have h2 : y ≤ 0 := this.2
        omega
      · have := (vld_it hv (by omega)).1
        have h1 := this.1
        have h2 : y ≤ 0 := this.2
        omega
      · have := (vld_i17 hv).1
        have h1 := this.1
        have h2 : y ≤ 0 := this.2
        omega
      · exact Or.inr (Or.inr (Or.inr hk))
  · rw [ob_n hv] at hk
    exact hk.elim
def Told (p : Prm) (tx : ByteArray) (c1 : Int) : Prop := (∀ k, p.len k = M.bt tx (M.pos tx k + 1)) ∧ (∀ k i, p.ins k i = insAt tx (M.pos tx k + 2 + 4 * i)) ∧ (p.qn : Int) = c1
def Fresh (tx : ByteArray) (c1 : Int) (z eb : Nat) (w3 : World) : Prop := ∃ p s g, p.eb = eb ∧ Pgm p ∧ Rep p s g w3 ∧ Ok p s ∧ s = s00.born 0 (0, 0) (0, 0) ∧ Told p tx c1 ∧ ∀ k, Mine p s g k → z ≤ k ∧ k < w3.heap.size
theorem loadM2 (s : ByteArray) (c0 c1 c2 c3 : Int) (w : World) (hs : s.size ≤ maxLen) (hT : Tab w) :
    Calls Tryz.prog 23 #[.string s, .agg #[.int .i64 c0, .int .i64 c1, .int .i64 c2, .int .i64 c3]] w fun e w' => Below w.heap.size w w' ∧ ((∃ x y : Int, e = .returned (.tuple #[.pointer none, .agg #[.int .i64 x, .int .i64 y]]) ∧ ¬ (okC c0 c1 c2 c3 = true ∧ (M.prg s).2 = true)) ∨ ∃ (mb : Nat) (p : Prm) (g : Geo), e = .returned (.tuple #[P0 mb, .agg #[.int .i64 0, .int .i64 0]]) ∧ Pgm p ∧ Mch p (s00.born 0 (0, 0) (0, 0)) g mb w' ∧ Told p s c1 ∧ ∀ k, Mine p (s00.born 0 (0, 0) (0, 0)) g k ∨ k = mb → w.heap.size ≤ k ∧ k < w'.heap.size) := by
  refine (loadF_any s c0 c1 c2 c3 w hs hT (Fresh s c1 (w.heap.size + 2)) ?_).mono ?_
  · intro hok hprg w1 w2 g cl hcl z1 B2 z2 hF
    obtain ⟨n1, n2, hfn⟩ := prg_fn hprg
    have hb : 1 ≤ c0 ∧ c0 ≤ 200 ∧ 1 ≤ c1 ∧ c1 ≤ 50 ∧ 1 ≤ c2 ∧ c2 ≤ 50 ∧ 1 ≤ c3 ∧ c3 ≤ 16 := by
      simp [okC, inB] at hok
      omega
    obtain ⟨q, rfl⟩ : ∃ q : Nat, c1 = (q : Int) := ⟨c1.toNat, by omega⟩
    obtain ⟨wk, rfl⟩ : ∃ wk : Nat, c2 = (wk : Int) := ⟨c2.toNat, by omega⟩
    obtain ⟨t, rfl⟩ : ∃ t : Nat, c3 = (t : Int) := ⟨c3.toNat, by omega⟩
    obtain ⟨hz, gs, hG, hfs⟩ := hF
    refine engNewL g (M.bt s 0) q wk t cl (Fresh s _ (w.heap.size + 2)) w2 (by omega) (by omega) ?_
    rintro w7 eb sb pb ac ⟨y1, y2, y3, y4, B7, hA, hS, hE⟩
    have hblk : ∀ k, k < w2.heap.size → w7.heap[k]? = w2.heap[k]? := fun k hk => B7.block k hk
    have pre : Pre0 w7 s eb sb pb ac g cl q wk t gs := ⟨hprg, by omega, by omega, hG.block (hblk g hG.lt), fun k hk => by
      obtain ⟨_, a2, a3, a4, a5, a6⟩ := hfs k hk
      exact ⟨a2, a3, a4, a5, a6.block (hblk _ a6.lt)⟩, hA, str_new hS, hE⟩
    have hrep := pre.rep
    have hgeom : ∀ k, Mine (prm0 w7 s eb sb pb ac g cl q wk t gs) s00 g00 k → (w2.heap.size ≤ k ∨ (prm0 w7 s eb sb pb ac g cl q wk t gs).fx k) ∧ w.heap.size + 2 ≤ k := fun k hk => by
      rcases mine00 hk with h1 | h1 | h1 | h1
      · have h1 : k = eb := h1
        exact ⟨Or.inl (by omega), by omega⟩
      · have h1 : k = sb := h1
        exact ⟨Or.inl (by omega), by omega⟩
      · have h1 : k = pb := h1
        exact ⟨Or.inl (by omega), by omega⟩
      · refine ⟨Or.inr h1, ?_⟩
        rcases h1 with h2 | ⟨f, hf, h2⟩ | h2
        · omega
        · have := (hfs f hf).1
          omega
        · omega
    have hO0 := ok00 (prm0 w7 s eb sb pb ac g cl q wk t gs)
    have hf0 : (0 : Nat) < (prm0 w7 s eb sb pb ac g cl q wk t gs).nf := n1
    refine (beginR (f := 0) (0, 0) (0, 0) hrep pre.pw hO0.lw hO0.nd hO0.lt hO0.ol hf0 (by show 0 + 1 ≤ _; omega)).mono ?_
    rintro e w' ⟨rfl, g', hT', _⟩
    refine ⟨⟨_, rfl⟩, hT'.below hrep (fun k hk => (hgeom k hk).1) B7.size, prm0 w7 s eb sb pb ac g cl q wk t gs, s00.born 0 (0, 0) (0, 0), g', rfl, ⟨pre.pw, pre.pi, by show q ≤ 50; omega, by show wk ≤ 50; omega⟩, hT'.r, hO0.born (by show 0 + 1 ≤ _; omega) hf0 (PGot.num 0) (PGot.num 0), rfl, ⟨fun _ => rfl, fun _ _ => rfl, rfl⟩, fun k hk => ⟨?_, hT'.r.lt hk⟩⟩
    rcases hT'.m k hk with h1 | h1
    · exact (hgeom k h1).2
    · have := B7.size
      omega
  · rintro e w' ⟨hB, h | ⟨mb, eb, w3, rfl, ⟨p, st, g, rfl, hP, hR, hO, rfl, htold, hM⟩, hmb, rfl, hbx, hsame⟩⟩
    · exact ⟨hB, Or.inl h⟩
    · have hR' : Rep p (s00.born 0 (0, 0) (0, 0)) g w' := ⟨fun x y z => (ob p (s00.born 0 (0, 0) (0, 0)) g x y z).fr w3 w' (hR.o x y z) (fun k hk => hsame k (hR.lt ⟨x, y, z, hk⟩) (by have := (hM k ⟨x, y, z, hk⟩).1; omega)), hR.i⟩
      have hnm : ¬ Mine p (s00.born 0 (0, 0) (0, 0)) g w3.heap.size := fun hk => by have := (hM _ hk).2; omega
      refine ⟨hB, Or.inr ⟨w3.heap.size, p, g, rfl, hP, ⟨hR', hO, (born_st s00 0 (0, 0) (0, 0)).2.1, hbx, hnm⟩, htold, ?_⟩⟩
      rintro k (hk | rfl)
      · exact ⟨by have := (hM k hk).1; omega, hR'.lt hk⟩
      · obtain ⟨x, hx⟩ := hbx
        exact ⟨by omega, heap_lt hx⟩
theorem loadM (s : ByteArray) (c0 c1 c2 c3 : Int) (w : World) (hs : s.size ≤ maxLen) (hT : Tab w) :
    Calls Tryz.prog 23 #[.string s, .agg #[.int .i64 c0, .int .i64 c1, .int .i64 c2, .int .i64 c3]] w fun e w' => Below w.heap.size w w' ∧ ((∃ x y : Int, e = .returned (.tuple #[.pointer none, .agg #[.int .i64 x, .int .i64 y]])) ∨ ∃ (mb : Nat) (p : Prm) (s : Pl) (g : Geo), e = .returned (.tuple #[P0 mb, .agg #[.int .i64 0, .int .i64 0]]) ∧ Pgm p ∧ Mch p s g mb w' ∧ s.nt = 1 ∧ ∀ k, Mine p s g k ∨ k = mb → w.heap.size ≤ k ∧ k < w'.heap.size) := by
  refine (loadM2 s c0 c1 c2 c3 w hs hT).mono ?_
  rintro e w' ⟨hB, ⟨x, y, h, _⟩ | ⟨mb, p, g, h1, h2, h3, _, h5⟩⟩
  · exact ⟨hB, Or.inl ⟨x, y, h⟩⟩
  · exact ⟨hB, Or.inr ⟨mb, p, _, g, h1, h2, h3, born_nt s00 0 (0, 0) (0, 0), h5⟩⟩
end Go.Proofs.YtnjiinbhbjpfkaaGreatDoor.F
namespace Go.Proofs.YtnjiinbhbjpfkaaGreatDoor
open Go.RowKit
set_option maxRecDepth 100000 in
set_option maxHeartbeats 1000000 in
theorem among_any (gb n c x : Nat) (ad : Option Addr) (l : List Nat) (w : World) (hn : n = l.length) (hn2 : n ≤ 1000000000) (had : ∀ (j v : Nat), l[j]? = some v → ad = some ⟨gb, 0, none⟩ ∧ w.cell? ⟨gb, j, none⟩ = some (.int .i64 (v : Int))) :
    Calls Tryz.prog 27 #[.slice ad n c, .int .i64 (x : Int)] w fun e w' => e = .returned (.bool (decide (x ∈ l))) ∧ w' = w := by
  have HC := hid had
  have HL := hid hn
  clear had hn
  go_enter Tryz.func27, Tryz.ntmps27
  go_wp2_with fail
  go_loopw [5] (fun i wr => ∃ j : Nat, i = .int .i64 j ∧ j ≤ n ∧ wr = w ∧ Hid (∀ k, k < j → l[k]? ≠ some x)) (fun i _ => n - (intOf i).toNat)
  case atStart => exact ⟨0, rfl, by omega, rfl, fun k hk => absurd hk (Nat.not_lt_zero k)⟩
  case round =>
    obtain ⟨j, rfl, hj, rfl, rN⟩ := hrel
    by_cases hjn : j < n
    · obtain ⟨v, hv⟩ : ∃ v, l[j]? = some v := ⟨_, List.getElem?_eq_getElem (by have := HL.out; omega)⟩
      obtain ⟨rfl, cj⟩ := HC.out j v hv
      have hjn2 : (j : Int) < (n : Int) := by omega
      have HV := hid hv
      clear hv
      by_cases hvx : v = x
      · subst hvx
        have hd : decide (v ∈ l) = true := decide_eq_true (List.mem_of_getElem? HV.out)
        have HD := hid hd
        clear hd
        go_wp2_with fail
        go_ret
        exact ⟨congrArg (fun b => Ending.returned (Value.bool b)) HD.out.symm, rfl⟩
      · have hne : ¬ ((v : Int) = (x : Int)) := by omega
        have HN2 : Hid (∀ k, k < j + 1 → l[k]? ≠ some x) := fun k hk => by
          by_cases e : k = j
          · subst e
            rw [HV.out]
            intro e; injection e with e; exact hvx e
          · exact rN.out k (by omega)
        clear hvx rN
        go_wp2_with fail
        go_roundw
        case rel => first | exact ⟨j + 1, by simp, by omega, rfl, HN2⟩ | exact ⟨j + 1, by simp, by omega, trivial, HN2⟩
        case measure => simp [intOf]; omega
    · have hjn2 : ¬ ((j : Int) < (n : Int)) := by omega
      have hd : decide (x ∈ l) = false := by
        refine decide_eq_false (fun hm => ?_)
        obtain ⟨k, hk, e⟩ := List.getElem_of_mem hm
        refine rN.out k (by have := HL.out; omega) ?_
        rw [List.getElem?_eq_getElem hk, e]
      have HD := hid hd
      clear hd rN
      go_wp2_with fail
      go_ret
      exact ⟨congrArg (fun b => Ending.returned (Value.bool b)) HD.out.symm, rfl⟩
end Go.Proofs.YtnjiinbhbjpfkaaGreatDoor
