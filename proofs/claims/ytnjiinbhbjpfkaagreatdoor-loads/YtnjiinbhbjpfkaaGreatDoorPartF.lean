/-
  The store of cells: what lies at its places; the collector's cycle; a cell is looked up.
-/
import Derived.Test.YtnjiinbhbjpfkaaGreatDoorPartB
import Derived.Test.YtnjiinbhbjpfkaaGreatDoorPartE
import Derived.Test.YtnjiinbhbjpfkaaGreatDoorPartC
namespace Go.Proofs.YtnjiinbhbjpfkaaGreatDoor
open Go.RowKit

/-- A place's cell, its slots in the block vb. -/
def kdV (k : Bool) : Value := .int .u8 (if k = true then 1 else 0)
def slV (k : Bool) (vb ln : Nat) : Value := if k = true then .slice (some ⟨vb, 0, none⟩) ln ln else .slice none 0 0
/-- The places, one behind the other. -/
def plcP (kd : Nat → Bool) (vb : Nat → Nat) (M : Nat → List B.V) : Nat → Value := fun j =>
  if j % 3 = 0 then kdV (kd (j / 3 + 1)) else if j % 3 = 1 then .int .i64 0 else slV (kd (j / 3 + 1)) (vb (j / 3 + 1)) (M (j / 3 + 1)).length
theorem plc_0 (kd : Nat → Bool) (vb : Nat → Nat) (M : Nat → List B.V) (k : Nat) : plcP kd vb M (k * 3) = kdV (kd (k + 1)) := by
  unfold plcP; rw [if_pos (by omega), show k * 3 / 3 = k by omega]
theorem plc_1 (kd : Nat → Bool) (vb : Nat → Nat) (M : Nat → List B.V) (k : Nat) : plcP kd vb M (k * 3 + 1) = .int .i64 0 := by
  unfold plcP; rw [if_neg (by omega), if_pos (by omega)]
theorem plc_2 (kd : Nat → Bool) (vb : Nat → Nat) (M : Nat → List B.V) (k : Nat) : plcP kd vb M (k * 3 + 2) = slV (kd (k + 1)) (vb (k + 1)) (M (k + 1)).length := by
  unfold plcP; rw [if_neg (by omega), if_neg (by omega), show (k * 3 + 2) / 3 = k by omega]
abbrev slots (M : Nat → List B.V) (p : Nat) : Nat → B.V := fun i => (M p).getD i (0, 0)
/-- Places and slots. -/
structure Plc (w : World) (pb n : Nat) (on : Nat → Bool) (f : Nat → Nat) (M : Nat → List B.V) : Prop where
  p : Full w pb 228 (n * 3) (n * 3) (plcP on f M)
  s : ∀ p, 1 ≤ p → p ≤ n → on p = true → Full w (f p) 149 ((M p).length * 2) ((M p).length * 2) (regP (slots M p))
  i : ∀ p q, 1 ≤ p → p ≤ n → 1 ≤ q → q ≤ n → on p = true → on q = true → f p = f q → p = q
  l : ∀ p, on p = true → (M p).length ≤ 8
theorem Plc.block {w w' : World} {pb n : Nat} {on : Nat → Bool} {f : Nat → Nat} {M : Nat → List B.V} (h : Plc w pb n on f M) (h1 : w'.heap[pb]? = w.heap[pb]?) (h2 : ∀ p, 1 ≤ p → p ≤ n → on p = true → w'.heap[f p]? = w.heap[f p]?) : Plc w' pb n on f M :=
  ⟨h.p.block h1, fun p a b c => (h.s p a b c).block (h2 p a b c), h.i, h.l⟩
theorem Plc.kept {w w' : World} {pb n : Nat} {on : Nat → Bool} {f : Nat → Nat} {M : Nat → List B.V} (h : Plc w pb n on f M) (hg : w.grownBy w' none) : Plc w' pb n on f M :=
  h.block (hg.block pb h.p.lt (by intro e; cases e)) (fun p a b c => hg.block _ (h.s p a b c).lt (by intro e; cases e))

/-- The stack in memory: places, counted from 0 on. -/
def stL (st : List Nat) : List Value := st.map (fun p => .int .i64 ((p - 1 : Nat) : Int))
theorem stL_len (st : List Nat) : (stL st).length = st.length := by simp [stL]
theorem stL_app (a b : List Nat) : stL (a ++ b) = stL a ++ stL b := by simp [stL]
/-- A cycle in memory. -/
structure Cym (w : World) (cb rd sb n : Nat) (ad : Option Addr) (cap : Nat) (c : B.Cy) : Prop where
  b : w.heap[cb]? = some (.cells #[P0 sb, .slice (some ⟨rd, 0, none⟩) n n, .slice ad c.st.length cap, .int .i64 c.nx] 275 (0, 0))
  r : Full w rd 4 n n (fun j => .bool (c.m (j + 1)))
  q : Qrow w 3 (.slice ad c.st.length cap) (stL c.st)
/-- The block of a slice. -/
def adB (ad : Option Addr) : Option Nat := ad.map (·.block)
theorem own_adB (ad : Option Addr) (n c : Nat) : (Value.slice ad n c).ownBlock = adB ad := by cases ad <;> rfl
/-- A cycle's blocks. -/
def CyB (cb rd : Nat) (ad : Option Addr) (k : Nat) : Prop := k = cb ∨ k = rd ∨ adB ad = some k
theorem Cym.block {w w' : World} {cb rd sb n : Nat} {ad : Option Addr} {cap : Nat} {c : B.Cy} (h : Cym w cb rd sb n ad cap c) (hk : ∀ k, CyB cb rd ad k → w'.heap[k]? = w.heap[k]?) : Cym w' cb rd sb n ad cap c :=
  ⟨(hk cb (Or.inl rfl)).trans h.b, h.r.block (hk rd (Or.inr (Or.inl rfl))), h.q.block (fun k e => hk k (Or.inr (Or.inr (by rw [← own_adB ad c.st.length cap]; exact e))))⟩
theorem Cym.lt {w : World} {cb rd sb n : Nat} {ad : Option Addr} {cap : Nat} {c : B.Cy} (h : Cym w cb rd sb n ad cap c) (k : Nat) (hk : CyB cb rd ad k) : k < w.heap.size := by
  rcases hk with rfl | rfl | hk
  · exact heap_lt h.b
  · exact h.r.lt
  · exact h.q.lt k (by rw [own_adB]; exact hk)
theorem Cym.ty {w : World} {cb rd sb n : Nat} {ad : Option Addr} {cap : Nat} {c : B.Cy} (h : Cym w cb rd sb n ad cap c) (k : Nat) (hk : CyB cb rd ad k) : ∃ cur T, w.heap[k]? = some (.cells cur T (0, 0)) ∧ (T = 275 ∨ T = 4 ∨ T = 3) := by
  rcases hk with rfl | rfl | hk
  · exact ⟨_, _, h.b, Or.inl rfl⟩
  · obtain ⟨cur, h1, _⟩ := h.r; exact ⟨_, _, h1, Or.inr (Or.inl rfl)⟩
  · obtain ⟨cur, h1⟩ := h.q.ty k (by rw [own_adB]; exact hk); exact ⟨_, _, h1, Or.inr (Or.inr rfl)⟩
theorem Cym.kept {w w' : World} {cb rd sb n : Nat} {ad : Option Addr} {cap : Nat} {c : B.Cy} (h : Cym w cb rd sb n ad cap c) (hg : w.grownBy w' none) : Cym w' cb rd sb n ad cap c :=
  h.block (fun k hk => hg.block k (h.lt k hk) (by intro e; cases e))
/-- Where the store's parts lie: a cell's slots; the cycle, its marks, its stack. -/
structure Vs where
  f : Nat → Nat
  cb : Nat
  rd : Nat
  ad : Option Addr
  cap : Nat
def vs0 : Vs := ⟨fun _ => 0, 0, 0, none, 0⟩
def cyV (kd : B.Kd) (vb : Vs) : Value := if kd.cy.isSome = true then P0 vb.cb else .pointer none
/-- The store. -/
structure Str (w : World) (sb pb eb n : Nat) (kd : B.Kd) (vb : Vs) (M : Nat → List B.V) : Prop where
  b : w.heap[sb]? = some (.cells #[.slice (some ⟨pb, 0, none⟩) n n, .func (.func 59) #[P0 eb] #[], cyV kd vb, .int .i64 (wrap64 (kd.un : Int)), .int .i64 (wrap64 (kd.fo : Int)), .int .i64 (wrap64 (kd.cc : Int))] 207 (0, 0))
  p : Plc w pb n kd.on vb.f M
  c : ∀ c, kd.cy = some c → Cym w vb.cb vb.rd sb n vb.ad vb.cap c
/-- The blocks of slots and of the cycle. -/
def Own (n : Nat) (kd : B.Kd) (vb : Vs) (k : Nat) : Prop := (∃ p, 1 ≤ p ∧ p ≤ n ∧ kd.on p = true ∧ vb.f p = k) ∨ (kd.cy.isSome = true ∧ CyB vb.cb vb.rd vb.ad k)
theorem Str.block {w w' : World} {sb pb eb n : Nat} {kd : B.Kd} {vb : Vs} {M : Nat → List B.V} (h : Str w sb pb eb n kd vb M) (h1 : w'.heap[sb]? = w.heap[sb]?) (h2 : w'.heap[pb]? = w.heap[pb]?) (h3 : ∀ k, Own n kd vb k → w'.heap[k]? = w.heap[k]?) : Str w' sb pb eb n kd vb M :=
  ⟨h1.trans h.b, h.p.block h2 (fun p a b c => h3 _ (Or.inl ⟨p, a, b, c, rfl⟩)), fun c hc => (h.c c hc).block (fun k hk => h3 k (Or.inr ⟨by rw [hc]; rfl, hk⟩))⟩
theorem Str.lt {w : World} {sb pb eb n : Nat} {kd : B.Kd} {vb : Vs} {M : Nat → List B.V} (h : Str w sb pb eb n kd vb M) (k : Nat) (hk : Own n kd vb k) : k < w.heap.size := by
  rcases hk with ⟨p, a, b, c, rfl⟩ | ⟨hc, hk⟩
  · exact (h.p.s p a b c).lt
  · obtain ⟨c, hc⟩ := Option.isSome_iff_exists.1 hc
    exact (h.c c hc).lt k hk
theorem Str.kept {w w' : World} {sb pb eb n : Nat} {kd : B.Kd} {vb : Vs} {M : Nat → List B.V} (h : Str w sb pb eb n kd vb M) (hg : w.grownBy w' none) : Str w' sb pb eb n kd vb M :=
  h.block (hg.block sb (heap_lt h.b) (by intro e; cases e)) (hg.block pb h.p.p.lt (by intro e; cases e)) (fun k hk => hg.block k (h.lt k hk) (by intro e; cases e))
/-- The types of the store's blocks. -/
theorem Str.ty {w : World} {sb pb eb n : Nat} {kd : B.Kd} {vb : Vs} {M : Nat → List B.V} (h : Str w sb pb eb n kd vb M) (k : Nat) (hk : Own n kd vb k) : ∃ cur T, w.heap[k]? = some (.cells cur T (0, 0)) ∧ (T = 149 ∨ T = 275 ∨ T = 4 ∨ T = 3) := by
  rcases hk with ⟨p, a, b, c, rfl⟩ | ⟨hc, hk⟩
  · obtain ⟨cur, h1, _⟩ := h.p.s p a b c; exact ⟨_, _, h1, Or.inl rfl⟩
  · obtain ⟨c, hc⟩ := Option.isSome_iff_exists.1 hc
    obtain ⟨cur, T, h1, h2⟩ := (h.c c hc).ty k hk
    exact ⟨cur, T, h1, Or.inr h2⟩

theorem cells_ne {w : World} {a b : Nat} {x y : Array Value} {S T : TypeId} {f g : Nat × Nat} (h1 : w.heap[a]? = some (.cells x S f)) (h2 : w.heap[b]? = some (.cells y T g)) (h : S ≠ T) : a ≠ b := by
  rintro rfl
  rw [h1] at h2; injection h2 with h2; injection h2 with _ h2 _; exact h h2

theorem isFree_any (k : Bool) (c1 : Int) (v : Value) (w : World) : Calls Tryz.prog 140 #[.agg #[kdV k, .int .i64 c1, v]] w fun e w' => e = .returned (.bool (!k)) ∧ w.grownBy w' none := by
  cases k
  · show Calls Tryz.prog 140 #[.agg #[.int .u8 0, .int .i64 c1, v]] w _
    go_enter Tryz.func140, Tryz.ntmps140
    go_wp2_with fail
    go_ret
    exact ⟨rfl, World.grownBy_alloc _ _ _⟩
  · show Calls Tryz.prog 140 #[.agg #[.int .u8 1, .int .i64 c1, v]] w _
    go_enter Tryz.func140, Tryz.ntmps140
    go_wp2_with fail
    go_ret
    exact ⟨rfl, World.grownBy_alloc _ _ _⟩
end Go.Proofs.YtnjiinbhbjpfkaaGreatDoor

/-
  The program's engine is made: what lies in its memory.
-/
namespace Go.Proofs.YtnjiinbhbjpfkaaGreatDoor
open Go.RowKit

theorem Tab.below {w w' : World} (h : Tab w) (hb : Below w.heap.size w w') : Tab w' :=
  ⟨Nat.lt_of_lt_of_le h.1 hb.size, fun op ho => (hb.cell (p := ⟨0, op, none⟩) h.1).trans (h.2 op ho)⟩

theorem Tryz.info228c : (Tryz.prog.info? 228).map (fun i => (i.zero, i.size, i.bytes)) = some (some (.agg #[.int .u8 0, .int .i64 0, .slice none 0 0]), 3, 40) := by kernel_rfl

set_option maxRecDepth 100000 in
theorem cellsNew_any (n eb : Nat) (hn : 1 ≤ n) (hn2 : n ≤ 200) (w : World) : Calls Tryz.prog 58 #[.int .i64 n, .func (.func 59) #[P0 eb] #[]] w fun e w' => ∃ sb pb, e = .returned (P0 sb) ∧ w.grownBy w' none ∧ w.heap.size ≤ sb ∧ w.heap.size ≤ pb ∧ Str w' sb pb eb n B.kd0 vs0 (fun _ => []) := by
  obtain ⟨i0, hi, hz0, hz1, hz2⟩ := info_parts Tryz.info228c
  go_enter Tryz.func58, Tryz.ntmps58
  go_wp2_with (at_make; go_loud (refine wpList_make_full _ rfl _ _ 204 rfl 0 228 i0 _ 3 Tryz.underlying204 hi hz0 hz1 _ _ _ _ n rfl rfl rfl rfl (by rw [hz2]; omega) (by unfold maxLen; omega) (Nat.zero_le _) ?_))
  intro w3 hown hg3
  have hf3 : Full w3 w.heap.size 228 (n * 3) (n * 3) (plcP (fun _ => false) (fun _ => 0) (fun _ => [])) := by
    rcases hown.2 with ⟨h, _⟩ | ⟨g', cap', cur, h1, h2, h3, h4, h5, h6, h7⟩
    · cases h
    · cases h1
      refine ⟨cur, h3, h6, fun j hj => ?_⟩
      have e1 := congrArg (fun l => l[j]?) h7
      have e2 : (madeCells #[.int .u8 0, .int .i64 0, .slice none 0 0] (n * 3)).toList[j]? = some (plcP (fun _ => false) (fun _ => 0) (fun _ => []) j) := by
        simp only [madeCells, Array.getElem?_toList, Array.getElem?_map, Array.getElem?_range]
        rw [if_pos hj]
        have : j % 3 = 0 ∨ j % 3 = 1 ∨ j % 3 = 2 := by omega
        rcases this with h | h | h <;> simp [h, plcP, kdV, slV]
      simp only [e2, List.getElem?_take] at e1
      rw [if_pos hj] at e1
      simpa using e1
  have HF := hid hf3
  have HG := hid hg3
  clear hown hf3 hg3
  go_wp2_with fail
  go_ret
  refine ⟨w3.heap.size, w.heap.size, rfl, grown_alloc HG.out _, HG.out.size, Nat.le_refl _, ⟨(heap_alloc_new w3 (.cells #[.slice (some ⟨w.heap.size, 0, none⟩) n n, .func (.func 59) #[P0 eb] #[], .pointer none, .int .i64 0, .int .i64 0, .int .i64 0] 207)).trans (by simp [cyV, B.kd0, wrap64]), ⟨HF.out.block (Below.heap_alloc _ _ _ HF.out.lt), fun p _ _ h => (by cases h), fun p q _ _ _ _ h => (by cases h), fun p h => (by cases h)⟩, fun c h => (by cases h)⟩⟩

/-- The engine's block as it is made first, its table's closures from b on. -/
def eng0 (fs : Value) (q wk t : Int) (b : Nat) : Array Value := #[fs, .int .i64 q, .int .i64 wk, .int .i64 t, Fv 163 #[P0 (b + 2)], Fv 163 #[P0 (b + 4)], Fv 151 #[P0 (b + 5)], Fv 151 #[P0 (b + 6)], Fv 151 #[P0 (b + 7)], Fv 151 #[P0 (b + 8)], Fv 163 #[P0 (b + 10)], Fv 163 #[P0 (b + 12)], Fv 163 #[P0 (b + 14)], Fv 163 #[P0 (b + 16)], Fv 101 #[], Fv 102 #[], Fv 163 #[P0 (b + 18)], Fv 104 #[], Fv 163 #[P0 (b + 19)], Fv 108 #[], Fv 163 #[P0 (b + 20)], Fv 167 #[P0 (b + 21), P0 (b + 22)], Fv 167 #[P0 (b + 23), P0 (b + 24)], Fv 167 #[P0 (b + 25), P0 (b + 26)], Fv 167 #[P0 (b + 27), P0 (b + 28)], Fv 167 #[P0 (b + 29), P0 (b + 30)], Fv 163 #[P0 (b + 32)], .pointer none, .int .i64 0, .slice none 0 0, .slice none 0 0, .slice none 0 0, .slice none 0 0, .slice none 0 0, .slice none 0 0, .slice none 0 0, .slice none 0 0, .slice none 0 0, .slice none 0 0, .slice none 0 0, .slice none 0 0, .slice none 0 0, .bool false, .slice none 0 0]
def engF (fs : Value) (q wk t : Int) (b : Nat) : Nat → Value := fun j => (eng0 fs q wk t b).getD j undef
theorem engF_full {w : World} {eb : Nat} {fs : Value} {q wk t : Int} {b : Nat} (h : w.heap[eb]? = some (.cells (eng0 fs q wk t b) 144 (0, 0))) : Full w eb 144 44 44 (engF fs q wk t b) := by
  refine ⟨_, h, rfl, fun j hj => ?_⟩
  have hs : (eng0 fs q wk t b).size = 44 := rfl
  unfold engF
  rw [Array.getD_eq_getD_getElem?, Array.getElem?_eq_getElem (by omega)]
  rfl

/-- What the engine's making leaves. -/
def Born (w w' : World) (eb g nf s0 c0 r0 n : Nat) (q wk t : Int) : Prop :=
  ∃ (w5 : World) (sb pb ac : Nat), w.heap.size ≤ eb ∧ w.heap.size ≤ sb ∧ w.heap.size ≤ pb ∧ w.heap.size ≤ ac ∧ w.heap.size ≤ w5.heap.size ∧ w5.grownBy w' (some eb) ∧ (∀ k x, (actB (ac + 1))[k]? = some x → w5.heap[ac + 1 + k]? = some (.cells #[x.1] x.2 (0, 0))) ∧
    Str w5 sb pb eb n B.kd0 vs0 (fun _ => []) ∧ Full w5 eb 144 44 44 (upd (engF (.slice (some ⟨g, 0, none⟩) nf nf) q wk t ac) 27 (P0 sb)) ∧ Begun w5 w' eb s0 c0 r0 (upd (engF (.slice (some ⟨g, 0, none⟩) nf nf) q wk t ac) 27 (P0 sb))

set_option maxRecDepth 100000 in
set_option maxHeartbeats 4000000 in
theorem engNew_any (g nf s0 c0 r0 : Nat) (c1 c2 c3 : Int) (cl : Nat) (w : World) (h1 : w.cell? ⟨g, 0, none⟩ = some (.int .i64 r0)) (h2 : w.cell? ⟨g, 1, none⟩ = some (.slice (some ⟨s0, 0, none⟩) c0 c0)) (hg : g < w.heap.size) (hn : 1 ≤ nf) (hr : 2 ≤ r0) (hr2 : r0 ≤ 8) (hc1 : 1 ≤ cl) (hc2 : cl ≤ 200) :
    Calls Tryz.prog 38 #[.slice (some ⟨g, 0, none⟩) nf nf, .agg #[.int .i64 cl, .int .i64 c1, .int .i64 c2, .int .i64 c3]] w fun e w' => ∃ eb, e = .returned (P0 eb) ∧ Below w.heap.size w w' ∧ Born w w' eb g nf s0 c0 r0 cl c1 c2 c3 := by
  have H1 := hid h1
  have H2 := hid h2
  clear h1 h2
  go_enter Tryz.func38, Tryz.ntmps38
  go_wp2_with fail
  generalize hw1 : w.alloc (.cells #[.int .i64 cl, .int .i64 c1, .int .i64 c2, .int .i64 c3] 23) = w1
  have hz1 : w1.heap.size = w.heap.size + 1 := by rw [← hw1]; simp
  have b0 : w1.cell? ⟨w.heap.size, 0, none⟩ = some (.int .i64 cl) := by rw [← hw1]; simp [go_sem]
  have b1 : w1.cell? ⟨w.heap.size, 1, none⟩ = some (.int .i64 c1) := by rw [← hw1]; simp [go_sem]
  have b2 : w1.cell? ⟨w.heap.size, 2, none⟩ = some (.int .i64 c2) := by rw [← hw1]; simp [go_sem]
  have b3 : w1.cell? ⟨w.heap.size, 3, none⟩ = some (.int .i64 c3) := by rw [← hw1]; simp [go_sem]
  have KB1 : Hid (Below w.heap.size w w1) := by show Below _ _ _; rw [← hw1]; exact (Below.refl _ _).alloc (Nat.le_refl _) _
  clear hw1
  generalize hN : w.heap.size = N at *
  have l0 : N < w1.heap.size := by omega
  have hS : Hid (w1.drew.heap.size = N + 1) := hz1
  go_cut [5] from 6 to 15 (fun x wx => ∃ (w2 : World), x = P0 w2.heap.size ∧ wx = w2.alloc (.cells (eng0 (.slice (some ⟨g, 0, none⟩) nf nf) c1 c2 c3 (N + 1)) 144) ∧ Hid (Below w1.heap.size w1 w2) ∧ w2.heap.size = N + 34 ∧ Hid (∀ k x, (actB (N + 1 + 1))[k]? = some x → w2.heap[N + 1 + 1 + k]? = some (.cells #[x.1] x.2 (0, 0))))
  case first =>
    go_region_with (go_at_call 57; refine (actions_b (N + 1) w1.drew hS).mono ?_; rintro e w2 ⟨rfl, hB2, hz2, ha2⟩; have b1' : w2.cell? ⟨N, 1, none⟩ = some (.int .i64 c1) := ((hB2.cell (p := ⟨N, 1, none⟩) l0).trans b1); have b2' : w2.cell? ⟨N, 2, none⟩ = some (.int .i64 c2) := ((hB2.cell (p := ⟨N, 2, none⟩) l0).trans b2); have b3' : w2.cell? ⟨N, 3, none⟩ = some (.int .i64 c3) := ((hB2.cell (p := ⟨N, 3, none⟩) l0).trans b3); have HA2 := hid ha2; clear ha2)
    all_goals
      go_wp2_with fail
      go_meet
      case rel => exact ⟨w2, by rw [hz2], rfl, ⟨hB2.os, hB2.tape, hB2.output, hB2.size, hB2.block⟩, hz2, HA2⟩
  case rest =>
    obtain ⟨w2, rfl, hwx, hB2, hz2, HA2⟩ := hcut
    have hz3 : wc.heap.size = N + 35 := by rw [hwx]; simp; omega
    have KB3 : Hid (Below N w wc) := by
      show Below _ _ _
      rw [hwx]
      exact (KB1.out.trans (hB2.out.mono (by omega))).alloc (by omega) _
    have HA3 : Hid (∀ k x, (actB (N + 1 + 1))[k]? = some x → wc.heap[N + 1 + 1 + k]? = some (.cells #[x.1] x.2 (0, 0))) := fun k x hx => by
      have := HA2.out k x hx
      rw [hwx, Below.heap_alloc _ _ _ (heap_lt this)]; exact this
    have c0' : wc.cell? ⟨N, 0, none⟩ = some (.int .i64 cl) := by
      have e1 : wc.cell? ⟨N, 0, none⟩ = w2.cell? ⟨N, 0, none⟩ := by rw [hwx]; exact World.cell?_of_block (Below.heap_alloc _ _ _ (by show N < _; omega))
      rw [e1]
      exact (hB2.out.cell (p := ⟨N, 0, none⟩) l0).trans b0
    have hbE : wc.heap[N + 34]? = some (.cells (eng0 (.slice (some ⟨g, 0, none⟩) nf nf) c1 c2 c3 (N + 1)) 144 (0, 0)) := by rw [hwx, ← hz2]; exact heap_alloc_new _ _
    have KE3 := hid (engF_full hbE)
    obtain ⟨e26, f26⟩ := KE3.out.cells 27 (by omega)
    have e26 : wc.cell? ⟨N + 34, 27, none⟩ = some (.pointer none) := e26
    rw [hz2]
    clear hwx hbE hB2 b0 b1 b2 b3 KB1 hz1 l0 hS hz2 HA2
    generalize hE : N + 34 = eb at *
    go_wp2_with fail
    refine (cellsNew_any cl eb hc1 hc2 _).mono ?_
    rintro e w4 ⟨sb, pb, rfl, hg4, hsb, hpb, hS4⟩
    have hz4 := hg4.size
    have KE4 := hid (KE3.out.block (hg4.block eb (by omega) (by intro e; cases e)))
    obtain ⟨d26, g26⟩ := KE4.out.cells 27 (by omega)
    have d26 : w4.cell? ⟨eb, 27, none⟩ = some (.pointer none) := d26
    have KB4 : Hid (Below N w w4) := KB3.out.trans ((below_none hg4).mono (by omega))
    have HS4 := hid hS4
    have HA4 : Hid (∀ k x, (actB (N + 1 + 1))[k]? = some x → w4.heap[N + 1 + 1 + k]? = some (.cells #[x.1] x.2 (0, 0))) := fun k x hx => grown_out hg4 (HA3.out k x hx)
    have le4 : eb < w4.heap.size := by omega
    clear hg4 hS4 e26 f26 KE3 KB3 HA3 c0'
    go_wp2_with fail
    refine (number_any 0 _).mono ?_
    rintro e w5 ⟨rfl, rfl⟩
    go_wp2_with fail
    refine (number_any 0 _).mono ?_
    rintro e w6 ⟨rfl, rfl⟩
    go_wp2_with fail
    generalize hW : ((w4.setCell ⟨eb, 27, none⟩ (P0 sb)).alloc (.cells #[.int .i64 0, .int .i64 0] 149)).alloc (.cells #[.int .i64 0, .int .i64 0] 149) = w7
    have hz7 : w7.heap.size = w4.heap.size + 2 := by rw [← hW]; simp [World.setCell]
    have hb7 : ∀ k, k < w4.heap.size → k ≠ eb → w7.heap[k]? = w4.heap[k]? := fun k hk hne => by rw [← hW, Below.heap_alloc _ _ _ (by simp [World.setCell]; omega), Below.heap_alloc _ _ _ (by simp [World.setCell]; omega), Below.heap_setCell _ _ _ _ hne]
    have KE7 : Hid (Full w7 eb 144 44 44 (upd (engF (.slice (some ⟨g, 0, none⟩) nf nf) c1 c2 c3 (N + 1)) 27 (P0 sb))) := by
      show Full _ _ _ _ _ _
      rw [← hW]
      exact ((KE4.out.upd 27 _).block (Below.heap_alloc _ _ _ (by simp [World.setCell]; omega))).block (Below.heap_alloc _ _ _ (by simp [World.setCell]; omega))
    have KB7 : Hid (Below N w w7) := by
      show Below _ _ _
      rw [← hW]
      exact ((KB4.out.setCell (by show N ≤ eb; omega) _).alloc (by simp [World.setCell]; omega) _).alloc (by simp [World.setCell]; omega) _
    have HS7 : Hid (Str w7 sb pb eb cl B.kd0 vs0 (fun _ => [])) := HS4.out.block (hb7 sb (heap_lt HS4.out.b) (by omega)) (hb7 pb HS4.out.p.p.lt (by omega)) (fun k hk => by
      rcases hk with ⟨p, _, _, h, _⟩ | ⟨h, _⟩
      · cases h
      · cases h)
    have HA7 : Hid (∀ k x, (actB (N + 1 + 1))[k]? = some x → w7.heap[N + 1 + 1 + k]? = some (.cells #[x.1] x.2 (0, 0))) := fun k x hx => by
      have h := HA4.out k x hx
      refine (hb7 _ (heap_lt h) ?_).trans h
      intro e
      rw [e] at h
      obtain ⟨c5, h5, h6, _⟩ := KE4.out
      rw [h5] at h; injection h with h; injection h with h _ _
      rw [h] at h6; simp at h6
    have g0 : w7.cell? ⟨g, 0, none⟩ = some (.int .i64 r0) := (KB7.out.cell (p := ⟨g, 0, none⟩) hg).trans H1.out
    have g1 : w7.cell? ⟨g, 1, none⟩ = some (.slice (some ⟨s0, 0, none⟩) c0 c0) := (KB7.out.cell (p := ⟨g, 1, none⟩) hg).trans H2.out
    clear hW hb7 KE4 KB4 HS4 HA4 d26 g26
    refine (begin_any eb g nf s0 c0 r0 _ w7 KE7.out rfl g0 g1 rfl rfl rfl (by omega) (by omega) hn hr hr2).mono ?_
    rintro e w8 ⟨⟨x, rfl⟩, hg8, hBg⟩
    have HB8 : Hid (Below N w w8) := KB7.out.trans ⟨hg8.os, hg8.tape, hg8.output, hg8.size, fun k hk => hg8.block k (by omega) (by intro e; injection e with e; omega)⟩
    have HR : Hid (Born w w8 eb g nf s0 c0 r0 cl c1 c2 c3) := ⟨w7, sb, pb, N + 1, by omega, by omega, by omega, by omega, by omega, hg8, HA7.out, HS7.out, KE7.out, hBg⟩
    clear hg8 hBg g0 g1
    go_wp2_with fail
    go_ret
    exact ⟨eb, rfl, by rw [hN]; exact HB8.out, HR.out⟩
end Go.Proofs.YtnjiinbhbjpfkaaGreatDoor
