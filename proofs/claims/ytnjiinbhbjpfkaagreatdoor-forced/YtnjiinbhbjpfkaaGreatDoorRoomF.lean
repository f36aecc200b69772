/-
  The store of cells: what lies at its places; the collector's cycle; a cell is looked up.
-/
import Derived.Test.YtnjiinbhbjpfkaaGreatDoorRoomB
import Derived.Test.YtnjiinbhbjpfkaaGreatDoorRoomE
import Derived.Test.YtnjiinbhbjpfkaaGreatDoorRoomC
namespace Go.Proofs.YtnjiinbhbjpfkaaGreatDoor
open Go.RowKit

/-- A place's cell, its slots in the block vb. -/
def kdV (k : Bool) : Value := .int .u8 (if k = true then 1 else 0)
def slV (k : Bool) (vb ln : Nat) : Value := if k = true then .slice (some ⟨vb, 0, none⟩) ln ln else .slice none 0 0
/-- The places, one behind the other. -/
def plcP (kd : Nat → Bool) (vb : Nat → Nat) (M : Nat → List B.V) : Nat → Value := fun j =>
  if j % 3 = 0 then kdV (kd (j / 3 + 1)) else if j % 3 = 1 then .int .i64 0 else slV (kd (j / 3 + 1)) (vb (j / 3 + 1)) (M (j / 3 + 1)).length
theorem plc_0 (kd : Nat → Bool) (vb : Nat → Nat) (M : Nat → List B.V) (k : Nat) : plcP kd vb M (k * 3) = kdV (kd (k + 1)) := by
  unfold plcP; rw [if_pos (by omega), show k * 3 / 3 = k by omega]
theorem plc_1 (kd : Nat → Bool) (vb : Nat → Nat) (M : Nat → List B.V) (k : Nat) : plcP kd vb M (k * 3 + 1) = .int .i64 0 := by
  unfold plcP; rw [if_neg (by omega), if_pos (by omega)]
theorem plc_2 (kd : Nat → Bool) (vb : Nat → Nat) (M : Nat → List B.V) (k : Nat) : plcP kd vb M (k * 3 + 2) = slV (kd (k + 1)) (vb (k + 1)) (M (k + 1)).length := by
  unfold plcP; rw [if_neg (by omega), if_neg (by omega), show (k * 3 + 2) / 3 = k by omega]
abbrev slots (M : Nat → List B.V) (p : Nat) : Nat → B.V := fun i => (M p).getD i (0, 0)
/-- Places and slots. -/
structure Plc (w : World) (pb n : Nat) (on : Nat → Bool) (f : Nat → Nat) (M : Nat → List B.V) : Prop where
  p : Full w pb 228 (n * 3) (n * 3) (plcP on f M)
  s : ∀ p, 1 ≤ p → p ≤ n → on p = true → Full w (f p) 149 ((M p).length * 2) ((M p).length * 2) (regP (slots M p))
  i : ∀ p q, 1 ≤ p → p ≤ n → 1 ≤ q → q ≤ n → on p = true → on q = true → f p = f q → p = q
  l : ∀ p, on p = true → (M p).length ≤ 8
theorem Plc.block {w w' : World} {pb n : Nat} {on : Nat → Bool} {f : Nat → Nat} {M : Nat → List B.V} (h : Plc w pb n on f M) (h1 : w'.heap[pb]? = w.heap[pb]?) (h2 : ∀ p, 1 ≤ p → p ≤ n → on p = true → w'.heap[f p]? = w.heap[f p]?) : Plc w' pb n on f M :=
  ⟨h.p.block h1, fun p a b c => (h.s p a b c).block (h2 p a b c), h.i, h.l⟩
theorem Plc.kept {w w' : World} {pb n : Nat} {on : Nat → Bool} {f : Nat → Nat} {M : Nat → List B.V} (h : Plc w pb n on f M) (hg : w.grownBy w' none) : Plc w' pb n on f M :=
  h.block (hg.block pb h.p.lt (by intro e; cases e)) (fun p a b c => hg.block _ (h.s p a b c).lt (by intro e; cases e))

/-- The stack in memory: places, counted from 0 on. -/
def stL (st : List Nat) : List Value := st.map (fun p => .int .i64 ((p - 1 : Nat) : Int))
theorem stL_len (st : List Nat) : (stL st).length = st.length := by simp [stL]
theorem stL_app (a b : List Nat) : stL (a ++ b) = stL a ++ stL b := by simp [stL]
/-- A cycle in memory. -/
structure Cym (w : World) (cb rd sb n : Nat) (ad : Option Addr) (cap : Nat) (c : B.Cy) : Prop where
  b : w.heap[cb]? = some (.cells #[P0 sb, .slice (some ⟨rd, 0, none⟩) n n, .slice ad c.st.length cap, .int .i64 c.nx] 275 (0, 0))
  r : Full w rd 4 n n (fun j => .bool (c.m (j + 1)))
  q : Qrow w 3 (.slice ad c.st.length cap) (stL c.st)
/-- The block of a slice. -/
def adB (ad : Option Addr) : Option Nat := ad.map (·.block)
theorem own_adB (ad : Option Addr) (n c : Nat) : (Value.slice ad n c).ownBlock = adB ad := by cases ad <;> rfl
/-- A cycle's blocks. -/
def CyB (cb rd : Nat) (ad : Option Addr) (k : Nat) : Prop := k = cb ∨ k = rd ∨ adB ad = some k
theorem Cym.block {w w' : World} {cb rd sb n : Nat} {ad : Option Addr} {cap : Nat} {c : B.Cy} (h : Cym w cb rd sb n ad cap c) (hk : ∀ k, CyB cb rd ad k → w'.heap[k]? = w.heap[k]?) : Cym w' cb rd sb n ad cap c :=
  ⟨(hk cb (Or.inl rfl)).trans h.b, h.r.block (hk rd (Or.inr (Or.inl rfl))), h.q.block (fun k e => hk k (Or.inr (Or.inr (by rw [← own_adB ad c.st.length cap]; exact e))))⟩
theorem Cym.lt {w : World} {cb rd sb n : Nat} {ad : Option Addr} {cap : Nat} {c : B.Cy} (h : Cym w cb rd sb n ad cap c) (k : Nat) (hk : CyB cb rd ad k) : k < w.heap.size := by
  rcases hk with rfl | rfl | hk
  · exact heap_lt h.b
  · exact h.r.lt
  · exact h.q.lt k (by rw [own_adB]; exact hk)
theorem Cym.ty {w : World} {cb rd sb n : Nat} {ad : Option Addr} {cap : Nat} {c : B.Cy} (h : Cym w cb rd sb n ad cap c) (k : Nat) (hk : CyB cb rd ad k) : ∃ cur T, w.heap[k]? = some (.cells cur T (0, 0)) ∧ (T = 275 ∨ T = 4 ∨ T = 3) := by
  rcases hk with rfl | rfl | hk
  · exact ⟨_, _, h.b, Or.inl rfl⟩
  · obtain ⟨cur, h1, _⟩ := h.r; exact ⟨_, _, h1, Or.inr (Or.inl rfl)⟩
  · obtain ⟨cur, h1⟩ := h.q.ty k (by rw [own_adB]; exact hk); exact ⟨_, _, h1, Or.inr (Or.inr rfl)⟩
theorem Cym.kept {w w' : World} {cb rd sb n : Nat} {ad : Option Addr} {cap : Nat} {c : B.Cy} (h : Cym w cb rd sb n ad cap c) (hg : w.grownBy w' none) : Cym w' cb rd sb n ad cap c :=
  h.block (fun k hk => hg.block k (h.lt k hk) (by intro e; cases e))
/-- Where the store's parts lie: a cell's slots; the cycle, its marks, its stack. -/
structure Vs where
  f : Nat → Nat
  cb : Nat
  rd : Nat
  ad : Option Addr
  cap : Nat
def vs0 : Vs := ⟨fun _ => 0, 0, 0, none, 0⟩
def cyV (kd : B.Kd) (vb : Vs) : Value := if kd.cy.isSome = true then P0 vb.cb else .pointer none
/-- The store. -/
structure Str (w : World) (sb pb eb n : Nat) (kd : B.Kd) (vb : Vs) (M : Nat → List B.V) : Prop where
  b : w.heap[sb]? = some (.cells #[.slice (some ⟨pb, 0, none⟩) n n, .func (.func 59) #[P0 eb] #[], cyV kd vb, .int .i64 (wrap64 (kd.un : Int)), .int .i64 (wrap64 (kd.fo : Int)), .int .i64 (wrap64 (kd.cc : Int))] 207 (0, 0))
  p : Plc w pb n kd.on vb.f M
  c : ∀ c, kd.cy = some c → Cym w vb.cb vb.rd sb n vb.ad vb.cap c
/-- The blocks of slots and of the cycle. -/
def Own (n : Nat) (kd : B.Kd) (vb : Vs) (k : Nat) : Prop := (∃ p, 1 ≤ p ∧ p ≤ n ∧ kd.on p = true ∧ vb.f p = k) ∨ (kd.cy.isSome = true ∧ CyB vb.cb vb.rd vb.ad k)
theorem Str.block {w w' : World} {sb pb eb n : Nat} {kd : B.Kd} {vb : Vs} {M : Nat → List B.V} (h : Str w sb pb eb n kd vb M) (h1 : w'.heap[sb]? = w.heap[sb]?) (h2 : w'.heap[pb]? = w.heap[pb]?) (h3 : ∀ k, Own n kd vb k → w'.heap[k]? = w.heap[k]?) : Str w' sb pb eb n kd vb M :=
  ⟨h1.trans h.b, h.p.block h2 (fun p a b c => h3 _ (Or.inl ⟨p, a, b, c, rfl⟩)), fun c hc => (h.c c hc).block (fun k hk => h3 k (Or.inr ⟨by rw [hc]; rfl, hk⟩))⟩
theorem Str.lt {w : World} {sb pb eb n : Nat} {kd : B.Kd} {vb : Vs} {M : Nat → List B.V} (h : Str w sb pb eb n kd vb M) (k : Nat) (hk : Own n kd vb k) : k < w.heap.size := by
  rcases hk with ⟨p, a, b, c, rfl⟩ | ⟨hc, hk⟩
  · exact (h.p.s p a b c).lt
  · obtain ⟨c, hc⟩ := Option.isSome_iff_exists.1 hc
    exact (h.c c hc).lt k hk
theorem Str.kept {w w' : World} {sb pb eb n : Nat} {kd : B.Kd} {vb : Vs} {M : Nat → List B.V} (h : Str w sb pb eb n kd vb M) (hg : w.grownBy w' none) : Str w' sb pb eb n kd vb M :=
  h.block (hg.block sb (heap_lt h.b) (by intro e; cases e)) (hg.block pb h.p.p.lt (by intro e; cases e)) (fun k hk => hg.block k (h.lt k hk) (by intro e; cases e))
/-- The types of the store's blocks. -/
theorem Str.ty {w : World} {sb pb eb n : Nat} {kd : B.Kd} {vb : Vs} {M : Nat → List B.V} (h : Str w sb pb eb n kd vb M) (k : Nat) (hk : Own n kd vb k) : ∃ cur T, w.heap[k]? = some (.cells cur T (0, 0)) ∧ (T = 149 ∨ T = 275 ∨ T = 4 ∨ T = 3) := by
  rcases hk with ⟨p, a, b, c, rfl⟩ | ⟨hc, hk⟩
  · obtain ⟨cur, h1, _⟩ := h.p.s p a b c; exact ⟨_, _, h1, Or.inl rfl⟩
  · obtain ⟨c, hc⟩ := Option.isSome_iff_exists.1 hc
    obtain ⟨cur, T, h1, h2⟩ := (h.c c hc).ty k hk
    exact ⟨cur, T, h1, Or.inr h2⟩

theorem cells_ne {w : World} {a b : Nat} {x y : Array Value} {S T : TypeId} {f g : Nat × Nat} (h1 : w.heap[a]? = some (.cells x S f)) (h2 : w.heap[b]? = some (.cells y T g)) (h : S ≠ T) : a ≠ b := by
  rintro rfl
  rw [h1] at h2; injection h2 with h2; injection h2 with _ h2 _; exact h h2

theorem isFree_any (k : Bool) (c1 : Int) (v : Value) (w : World) : Calls Tryz.prog 140 #[.agg #[kdV k, .int .i64 c1, v]] w fun e w' => e = .returned (.bool (!k)) ∧ w.grownBy w' none := by
  cases k
  · show Calls Tryz.prog 140 #[.agg #[.int .u8 0, .int .i64 c1, v]] w _
    go_enter Tryz.func140, Tryz.ntmps140
    go_wp2_with fail
    go_ret
    exact ⟨rfl, World.grownBy_alloc _ _ _⟩
  · show Calls Tryz.prog 140 #[.agg #[.int .u8 1, .int .i64 c1, v]] w _
    go_enter Tryz.func140, Tryz.ntmps140
    go_wp2_with fail
    go_ret
    exact ⟨rfl, World.grownBy_alloc _ _ _⟩
end Go.Proofs.YtnjiinbhbjpfkaaGreatDoor

/-
  The program's engine is made: what lies in its memory.
-/
namespace Go.Proofs.YtnjiinbhbjpfkaaGreatDoor
open Go.RowKit

theorem Tab.below {w w' : World} (h : Tab w) (hb : Below w.heap.size w w') : Tab w' :=
  ⟨Nat.lt_of_lt_of_le h.1 hb.size, fun op ho => (hb.cell (p := ⟨0, op, none⟩) h.1).trans (h.2 op ho)⟩

theorem Tryz.info228c : (Tryz.prog.info? 228).map (fun i => (i.zero, i.size, i.bytes)) = some (some (.agg #[.int .u8 0, .int .i64 0, .slice none 0 0]), 3, 40) := by kernel_rfl

set_option maxRecDepth 100000 in
theorem cellsNew_any (n eb : Nat) (hn : 1 ≤ n) (hn2 : n ≤ 200) (w : World) : Calls Tryz.prog 58 #[.int .i64 n, .func (.func 59) #[P0 eb] #[]] w fun e w' => ∃ sb pb, e = .returned (P0 sb) ∧ w.grownBy w' none ∧ w.heap.size ≤ sb ∧ w.heap.size ≤ pb ∧ Str w' sb pb eb n B.kd0 vs0 (fun _ => []) := by
  obtain ⟨i0, hi, hz0, hz1, hz2⟩ := info_parts Tryz.info228c
  go_enter Tryz.func58, Tryz.ntmps58
  go_wp2_with (at_make; go_loud (refine wpList_make_full _ rfl _ _ 204 rfl 0 228 i0 _ 3 Tryz.underlying204 hi hz0 hz1 _ _ _ _ n rfl rfl rfl rfl (by rw [hz2]; omega) (by unfold maxLen; omega) (Nat.zero_le _) ?_))
  intro w3 hown hg3
  have hf3 : Full w3 w.heap.size 228 (n * 3) (n * 3) (plcP (fun _ => false) (fun _ => 0) (fun _ => [])) := by
    rcases hown.2 with ⟨h, _⟩ | ⟨g', cap', cur, h1, h2, h3, h4, h5, h6, h7⟩
    · cases h
    · cases h1
      refine ⟨cur, h3, h6, fun j hj => ?_⟩
      have e1 := congrArg (fun l => l[j]?) h7
      have e2 : (madeCells #[.int .u8 0, .int .i64 0, .slice none 0 0] (n * 3)).toList[j]? = some (plcP (fun _ => false) (fun _ => 0) (fun _ => []) j) := by
        simp only [madeCells, Array.getElem?_toList, Array.getElem?_map, Array.getElem?_range]
        rw [if_pos hj]
        have : j % 3 = 0 ∨ j % 3 = 1 ∨ j % 3 = 2 := by omega
        rcases this with h | h | h <;> simp [h, plcP, kdV, slV]
      simp only [e2, List.getElem?_take] at e1
      rw [if_pos hj] at e1
      simpa using e1
  have HF := hid hf3
  have HG := hid hg3
  clear hown hf3 hg3
  go_wp2_with fail
  go_ret
  refine ⟨w3.heap.size, w.heap.size, rfl, grown_alloc HG.out _, HG.out.size, Nat.le_refl _, ⟨(heap_alloc_new w3 (.cells #[.slice (some ⟨w.heap.size, 0, none⟩) n n, .func (.func 59) #[P0 eb] #[], .pointer none, .int .i64 0, .int .i64 0, .int .i64 0] 207)).trans (by simp [cyV, B.kd0, wrap64]), ⟨HF.out.block (Below.heap_alloc _ _ _ HF.out.lt), fun p _ _ h => (by cases h), fun p q _ _ _ _ h => (by cases h), fun p h => (by cases h)⟩, fun c h => (by cases h)⟩⟩

/-- The engine's block as it is made first, its table's closures from b on. -/
def eng0 (fs : Value) (q wk t : Int) (b : Nat) : Array Value := #[fs, .int .i64 q, .int .i64 wk, .int .i64 t, Fv 163 #[P0 (b + 2)], Fv 163 #[P0 (b + 4)], Fv 151 #[P0 (b + 5)], Fv 151 #[P0 (b + 6)], Fv 151 #[P0 (b + 7)], Fv 151 #[P0 (b + 8)], Fv 163 #[P0 (b + 10)], Fv 163 #[P0 (b + 12)], Fv 163 #[P0 (b + 14)], Fv 163 #[P0 (b + 16)], Fv 101 #[], Fv 102 #[], Fv 163 #[P0 (b + 18)], Fv 104 #[], Fv 163 #[P0 (b + 19)], Fv 108 #[], Fv 163 #[P0 (b + 20)], Fv 167 #[P0 (b + 21), P0 (b + 22)], Fv 167 #[P0 (b + 23), P0 (b + 24)], Fv 167 #[P0 (b + 25), P0 (b + 26)], Fv 167 #[P0 (b + 27), P0 (b + 28)], Fv 167 #[P0 (b + 29), P0 (b + 30)], Fv 163 #[P0 (b + 32)], .pointer none, .int .i64 0, .slice none 0 0, .slice none 0 0, .slice none 0 0, .slice none 0 0, .slice none 0 0, .slice none 0 0, .slice none 0 0, .slice none 0 0, .slice none 0 0, .slice none 0 0, .slice none 0 0, .slice none 0 0, .slice none 0 0, .bool false, .slice none 0 0]
def engF (fs : Value) (q wk t : Int) (b : Nat) : Nat → Value := fun j => (eng0 fs q wk t b).getD j undef
theorem engF_full {w : World} {eb : Nat} {fs : Value} {q wk t : Int} {b : Nat} (h : w.heap[eb]? = some (.cells (eng0 fs q wk t b) 144 (0, 0))) : Full w eb 144 44 44 (engF fs q wk t b) := by
  refine ⟨_, h, rfl, fun j hj => ?_⟩
  have hs : (eng0 fs q wk t b).size = 44 := rfl
  unfold engF
  rw [Array.getD_eq_getD_getElem?, Array.getElem?_eq_getElem (by omega)]
  rfl

/-- What the engine's making leaves. -/
def Born (w w' : World) (eb g nf s0 c0 r0 n : Nat) (q wk t : Int) : Prop :=
  ∃ (w5 : World) (sb pb ac : Nat), w.heap.size ≤ eb ∧ w.heap.size ≤ sb ∧ w.heap.size ≤ pb ∧ w.heap.size ≤ ac ∧ w.heap.size ≤ w5.heap.size ∧ w5.grownBy w' (some eb) ∧ (∀ k x, (actB (ac + 1))[k]? = some x → w5.heap[ac + 1 + k]? = some (.cells #[x.1] x.2 (0, 0))) ∧
    Str w5 sb pb eb n B.kd0 vs0 (fun _ => []) ∧ Full w5 eb 144 44 44 (upd (engF (.slice (some ⟨g, 0, none⟩) nf nf) q wk t ac) 27 (P0 sb)) ∧ Begun w5 w' eb s0 c0 r0 (upd (engF (.slice (some ⟨g, 0, none⟩) nf nf) q wk t ac) 27 (P0 sb))

set_option maxRecDepth 100000 in
set_option maxHeartbeats 4000000 in
theorem engNew_any (g nf s0 c0 r0 : Nat) (c1 c2 c3 : Int) (cl : Nat) (w : World) (h1 : w.cell? ⟨g, 0, none⟩ = some (.int .i64 r0)) (h2 : w.cell? ⟨g, 1, none⟩ = some (.slice (some ⟨s0, 0, none⟩) c0 c0)) (hg : g < w.heap.size) (hn : 1 ≤ nf) (hr : 2 ≤ r0) (hr2 : r0 ≤ 8) (hc1 : 1 ≤ cl) (hc2 : cl ≤ 200) :
    Calls Tryz.prog 38 #[.slice (some ⟨g, 0, none⟩) nf nf, .agg #[.int .i64 cl, .int .i64 c1, .int .i64 c2, .int .i64 c3]] w fun e w' => ∃ eb, e = .returned (P0 eb) ∧ Below w.heap.size w w' ∧ Born w w' eb g nf s0 c0 r0 cl c1 c2 c3 := by
  have H1 := hid h1
  have H2 := hid h2
  clear h1 h2
  go_enter Tryz.func38, Tryz.ntmps38
  go_wp2_with fail
  generalize hw1 : w.alloc (.cells #[.int .i64 cl, .int .i64 c1, .int .i64 c2, .int .i64 c3] 23) = w1
  have hz1 : w1.heap.size = w.heap.size + 1 := by rw [← hw1]; simp
  have b0 : w1.cell? ⟨w.heap.size, 0, none⟩ = some (.int .i64 cl) := by rw [← hw1]; simp [go_sem]
  have b1 : w1.cell? ⟨w.heap.size, 1, none⟩ = some (.int .i64 c1) := by rw [← hw1]; simp [go_sem]
  have b2 : w1.cell? ⟨w.heap.size, 2, none⟩ = some (.int .i64 c2) := by rw [← hw1]; simp [go_sem]
  have b3 : w1.cell? ⟨w.heap.size, 3, none⟩ = some (.int .i64 c3) := by rw [← hw1]; simp [go_sem]
  have KB1 : Hid (Below w.heap.size w w1) := by show Below _ _ _; rw [← hw1]; exact (Below.refl _ _).alloc (Nat.le_refl _) _
  clear hw1
  generalize hN : w.heap.size = N at *
  have l0 : N < w1.heap.size := by omega
  have hS : Hid (w1.drew.heap.size = N + 1) := hz1
  go_cut [5] from 6 to 15 (fun x wx => ∃ (w2 : World), x = P0 w2.heap.size ∧ wx = w2.alloc (.cells (eng0 (.slice (some ⟨g, 0, none⟩) nf nf) c1 c2 c3 (N + 1)) 144) ∧ Hid (Below w1.heap.size w1 w2) ∧ w2.heap.size = N + 34 ∧ Hid (∀ k x, (actB (N + 1 + 1))[k]? = some x → w2.heap[N + 1 + 1 + k]? = some (.cells #[x.1] x.2 (0, 0))))
  case first =>
    go_region_with (go_at_call 57; refine (actions_b (N + 1) w1.drew hS).mono ?_; rintro e w2 ⟨rfl, hB2, hz2, ha2⟩; have b1' : w2.cell? ⟨N, 1, none⟩ = some (.int .i64 c1) := ((hB2.cell (p := ⟨N, 1, none⟩) l0).trans b1); have b2' : w2.cell? ⟨N, 2, none⟩ = some (.int .i64 c2) := ((hB2.cell (p := ⟨N, 2, none⟩) l0).trans b2); have b3' : w2.cell? ⟨N, 3, none⟩ = some (.int .i64 c3) := ((hB2.cell (p := ⟨N, 3, none⟩) l0).trans b3); have HA2 := hid ha2; clear ha2)
    all_goals
      go_wp2_with fail
      go_meet
      case rel => exact ⟨w2, by rw [hz2], rfl, ⟨hB2.os, hB2.tape, hB2.output, hB2.size, hB2.block⟩, hz2, HA2⟩
  case rest =>
    obtain ⟨w2, rfl, hwx, hB2, hz2, HA2⟩ := hcut
    have hz3 : wc.heap.size = N + 35 := by rw [hwx]; simp; omega
    have KB3 : Hid (Below N w wc) := by
      show Below _ _ _
      rw [hwx]
      exact (KB1.out.trans (hB2.out.mono (by omega))).alloc (by omega) _
    have HA3 : Hid (∀ k x, (actB (N + 1 + 1))[k]? = some x → wc.heap[N + 1 + 1 + k]? = some (.cells #[x.1] x.2 (0, 0))) := fun k x hx => by
      have := HA2.out k x hx
      rw [hwx, Below.heap_alloc _ _ _ (heap_lt this)]; exact this
    have c0' : wc.cell? ⟨N, 0, none⟩ = some (.int .i64 cl) := by
      have e1 : wc.cell? ⟨N, 0, none⟩ = w2.cell? ⟨N, 0, none⟩ := by rw [hwx]; exact World.cell?_of_block (Below.heap_alloc _ _ _ (by show N < _; omega))
      rw [e1]
      exact (hB2.out.cell (p := ⟨N, 0, none⟩) l0).trans b0
    have hbE : wc.heap[N + 34]? = some (.cells (eng0 (.slice (some ⟨g, 0, none⟩) nf nf) c1 c2 c3 (N + 1)) 144 (0, 0)) := by rw [hwx, ← hz2]; exact heap_alloc_new _ _
    have KE3 := hid (engF_full hbE)
    obtain ⟨e26, f26⟩ := KE3.out.cells 27 (by omega)
    have e26 : wc.cell? ⟨N + 34, 27, none⟩ = some (.pointer none) := e26
    rw [hz2]
    clear hwx hbE hB2 b0 b1 b2 b3 KB1 hz1 l0 hS hz2 HA2
    generalize hE : N + 34 = eb at *
    go_wp2_with fail
    refine (cellsNew_any cl eb hc1 hc2 _).mono ?_
    rintro e w4 ⟨sb, pb, rfl, hg4, hsb, hpb, hS4⟩
    have hz4 := hg4.size
    have KE4 := hid (KE3.out.block (hg4.block eb (by omega) (by intro e; cases e)))
    obtain ⟨d26, g26⟩ := KE4.out.cells 27 (by omega)
    have d26 : w4.cell? ⟨eb, 27, none⟩ = some (.pointer none) := d26
    have KB4 : Hid (Below N w w4) := KB3.out.trans ((below_none hg4).mono (by omega))
    have HS4 := hid hS4
    have HA4 : Hid (∀ k x, (actB (N + 1 + 1))[k]? = some x → w4.heap[N + 1 + 1 + k]? = some (.cells #[x.1] x.2 (0, 0))) := fun k x hx => grown_out hg4 (HA3.out k x hx)
    have le4 : eb < w4.heap.size := by omega
    clear hg4 hS4 e26 f26 KE3 KB3 HA3 c0'
    go_wp2_with fail
    refine (number_any 0 _).mono ?_
    rintro e w5 ⟨rfl, rfl⟩
    go_wp2_with fail
    refine (number_any 0 _).mono ?_
    rintro e w6 ⟨rfl, rfl⟩
    go_wp2_with fail
    generalize hW : ((w4.setCell ⟨eb, 27, none⟩ (P0 sb)).alloc (.cells #[.int .i64 0, .int .i64 0] 149)).alloc (.cells #[.int .i64 0, .int .i64 0] 149) = w7
    have hz7 : w7.heap.size = w4.heap.size + 2 := by rw [← hW]; simp [World.setCell]
    have hb7 : ∀ k, k < w4.heap.size → k ≠ eb → w7.heap[k]? = w4.heap[k]? := fun k hk hne => by rw [← hW, Below.heap_alloc _ _ _ (by simp [World.setCell]; omega), Below.heap_alloc _ _ _ (by simp [World.setCell]; omega), Below.heap_setCell _ _ _ _ hne]
    have KE7 : Hid (Full w7 eb 144 44 44 (upd (engF (.slice (some ⟨g, 0, none⟩) nf nf) c1 c2 c3 (N + 1)) 27 (P0 sb))) := by
      show Full _ _ _ _ _ _
      rw [← hW]
      exact ((KE4.out.upd 27 _).block (Below.heap_alloc _ _ _ (by simp [World.setCell]; omega))).block (Below.heap_alloc _ _ _ (by simp [World.setCell]; omega))
    have KB7 : Hid (Below N w w7) := by
      show Below _ _ _
      rw [← hW]
      exact ((KB4.out.setCell (by show N ≤ eb; omega) _).alloc (by simp [World.setCell]; omega) _).alloc (by simp [World.setCell]; omega) _
    have HS7 : Hid (Str w7 sb pb eb cl B.kd0 vs0 (fun _ => [])) := HS4.out.block (hb7 sb (heap_lt HS4.out.b) (by omega)) (hb7 pb HS4.out.p.p.lt (by omega)) (fun k hk => by
      rcases hk with ⟨p, _, _, h, _⟩ | ⟨h, _⟩
      · cases h
      · cases h)
    have HA7 : Hid (∀ k x, (actB (N + 1 + 1))[k]? = some x → w7.heap[N + 1 + 1 + k]? = some (.cells #[x.1] x.2 (0, 0))) := fun k x hx => by
      have h := HA4.out k x hx
      refine (hb7 _ (heap_lt h) ?_).trans h
      intro e
      rw [e] at h
      obtain ⟨c5, h5, h6, _⟩ := KE4.out
      rw [h5] at h; injection h with h; injection h with h _ _
      rw [h] at h6; simp at h6
    have g0 : w7.cell? ⟨g, 0, none⟩ = some (.int .i64 r0) := (KB7.out.cell (p := ⟨g, 0, none⟩) hg).trans H1.out
    have g1 : w7.cell? ⟨g, 1, none⟩ = some (.slice (some ⟨s0, 0, none⟩) c0 c0) := (KB7.out.cell (p := ⟨g, 1, none⟩) hg).trans H2.out
    clear hW hb7 KE4 KB4 HS4 HA4 d26 g26
    refine (begin_any eb g nf s0 c0 r0 _ w7 KE7.out rfl g0 g1 rfl rfl rfl (by omega) (by omega) hn hr hr2).mono ?_
    rintro e w8 ⟨⟨x, rfl⟩, hg8, hBg⟩
    have HB8 : Hid (Below N w w8) := KB7.out.trans ⟨hg8.os, hg8.tape, hg8.output, hg8.size, fun k hk => hg8.block k (by omega) (by intro e; injection e with e; omega)⟩
    have HR : Hid (Born w w8 eb g nf s0 c0 r0 cl c1 c2 c3) := ⟨w7, sb, pb, N + 1, by omega, by omega, by omega, by omega, by omega, hg8, HA7.out, HS7.out, KE7.out, hBg⟩
    clear hg8 hBg g0 g1
    go_wp2_with fail
    go_ret
    exact ⟨eb, rfl, by rw [hN]; exact HB8.out, HR.out⟩
end Go.Proofs.YtnjiinbhbjpfkaaGreatDoor

/-
  The store of cells: a cell is looked up; a free place is sought; how many slots a cell has, and what is in one.
-/
namespace Go.Proofs.YtnjiinbhbjpfkaaGreatDoor
open Go.RowKit

set_option maxRecDepth 100000 in
theorem cellOf_none (sb : Nat) (x : Int) (w : World) : Calls Tryz.prog 202 #[P0 sb, vA (0, x)] w fun e w' => e = .returned (.agg #[.int .u8 0, .int .i64 0, .slice none 0 0]) ∧ w.grownBy w' none := by
  have hi := isCell_any (0, x)
  simp only [ne_eq, not_true, decide_false] at hi
  have HI := hid hi
  clear hi
  go_enter Tryz.func202, Tryz.ntmps202
  go_wp2_with fail
  refine (HI.out _).mono ?_
  rintro e w1 ⟨rfl, hg⟩
  have hz := hg.size
  simp at hz
  have hx : w1.heap[w.heap.size + 1]? = some (.cells #[.int .u8 0, .int .i64 0, .slice none 0 0] 228 (0, 0)) := by
    refine (hg.block _ (by simp) (by intro e; cases e)).trans ?_
    have := heap_alloc_new (w.alloc (.cells #[.int .i64 ((0 : Nat) : Int), .int .i64 x] 149)) (.cells #[.int .u8 0, .int .i64 0, .slice none 0 0] 228)
    simpa using this
  have KG := hid (grown_trans (grown_alloc (World.grownBy_alloc w _ none) _) hg)
  have r0 : w1.cell? ⟨w.heap.size + 1, 0, none⟩ = some (.int .u8 0) := by simp [World.cell?, hx]
  have r1 : w1.cell? ⟨w.heap.size + 1, 1, none⟩ = some (.int .i64 0) := by simp [World.cell?, hx]
  have r2 : w1.cell? ⟨w.heap.size + 1, 2, none⟩ = some (.slice none 0 0) := by simp [World.cell?, hx]
  have t0 : w1.frozen? ⟨w.heap.size + 1, 0, none⟩ = false := by simp [World.frozen?, hx]
  have t1 : w1.frozen? ⟨w.heap.size + 1, 1, none⟩ = false := by simp [World.frozen?, hx]
  have t2 : w1.frozen? ⟨w.heap.size + 1, 2, none⟩ = false := by simp [World.frozen?, hx]
  have lx := heap_lt hx
  clear hg hx hz
  go_wp2_with fail
  refine bodyPost_ret (v := .agg #[.int .u8 0, .int .i64 0, .slice none 0 0]) (by simp [results, Tryz.results202, go_sem, r0, r1, r2]) rfl ⟨rfl, ?_⟩
  repeat (first | exact KG.out | refine grown_drew ?_ | refine grown_alloc ?_ _ | refine grown_setCell ?_ (Or.inr (by simp)) _)

set_option maxRecDepth 100000 in
set_option maxHeartbeats 1000000 in
theorem cellOf_some (sb pb n k : Nat) (x : Int) (on : Nat → Bool) (f : Nat → Nat) (M : Nat → List B.V) (w : World) (h0 : w.cell? ⟨sb, 0, none⟩ = some (.slice (some ⟨pb, 0, none⟩) n n)) (ls : sb < w.heap.size) (hP : Plc w pb n on f M) (hk : k < n) (hn : n ≤ 200) :
    Calls Tryz.prog 202 #[P0 sb, vA (k + 1, x)] w fun e w' => e = .returned (.agg #[kdV (on (k + 1)), .int .i64 0, slV (on (k + 1)) (f (k + 1)) (M (k + 1)).length]) ∧ w.grownBy w' none := by
  have hi := isCell_any (k + 1, x)
  have hd : decide (k + 1 ≠ 0) = true := by simp
  rw [show ((k + 1, x) : B.V).1 = k + 1 from rfl, hd] at hi
  have HI := hid hi
  have HPL := hid (place_any k x (by omega))
  have lp := hP.p.lt
  have c0 := hP.p.cell (k * 3) (by omega)
  have c1 := hP.p.cell (k * 3 + 1) (by omega)
  have c2 := hP.p.cell (k * 3 + 2) (by omega)
  rw [plc_0] at c0
  rw [plc_1] at c1
  rw [plc_2] at c2
  clear hP hi hd
  obtain ⟨y0, hy0⟩ : ∃ y, kdV (on (k + 1)) = .int .u8 y := ⟨_, rfl⟩
  obtain ⟨a2, n2, m2, hy2⟩ : ∃ a n m, slV (on (k + 1)) (f (k + 1)) (M (k + 1)).length = .slice a n m := by unfold slV; split <;> exact ⟨_, _, _, rfl⟩
  rw [hy0] at c0 ⊢
  rw [hy2] at c2 ⊢
  clear hy0 hy2
  have hk2 : (k : Int) < (n : Int) := by omega
  go_enter Tryz.func202, Tryz.ntmps202
  go_wp2_with fail
  refine (HI.out _).mono ?_
  rintro e w1 ⟨rfl, hg⟩
  have hz := hg.size
  simp at hz
  have hx : w1.heap[w.heap.size + 1]? = some (.cells #[.int .u8 0, .int .i64 0, .slice none 0 0] 228 (0, 0)) := by
    refine (hg.block _ (by simp) (by intro e; cases e)).trans ?_
    have := heap_alloc_new (w.alloc (.cells #[.int .i64 ((k : Int) + 1), .int .i64 x] 149)) (.cells #[.int .u8 0, .int .i64 0, .slice none 0 0] 228)
    simpa using this
  have hv : w1.heap[w.heap.size]? = some (.cells #[.int .i64 ((k : Int) + 1), .int .i64 x] 149 (0, 0)) := by
    refine (hg.block _ (by simp; omega) (by intro e; cases e)).trans ?_
    rw [Below.heap_alloc _ _ _ (by simp)]; exact heap_alloc_new w _
  have KG := hid (grown_trans (grown_alloc (World.grownBy_alloc w _ none) _) hg)
  have v0 : w1.cell? ⟨w.heap.size, 0, none⟩ = some (.int .i64 ((k : Int) + 1)) := by simp [World.cell?, hv]
  have v1 : w1.cell? ⟨w.heap.size, 1, none⟩ = some (.int .i64 x) := by simp [World.cell?, hv]
  have lv := heap_lt hv
  have HX := hid hx
  have d0 := (grown_cell KG.out (a := ⟨sb, 0, none⟩) ls).1.trans h0
  have p0 := (grown_cell KG.out (a := ⟨pb, k * 3, none⟩) lp).1.trans c0
  have p1 := (grown_cell KG.out (a := ⟨pb, k * 3 + 1, none⟩) lp).1.trans c1
  have p2 := (grown_cell KG.out (a := ⟨pb, k * 3 + 2, none⟩) lp).1.trans c2
  have ls1 : sb < w1.heap.size := by omega
  have lp1 : pb < w1.heap.size := by omega
  clear hg hx hz hv h0 c0 c1 c2
  have HP0 := hid (And.intro p0 (And.intro p1 p2))
  clear p0 p1 p2
  go_wp2_with fail
  go_region_with (go_at_call 201; refine (HPL.out w1.drew).mono ?_; rintro e w2 ⟨rfl, hg2⟩; have HG2 : Hid (w1.grownBy w2 none) := ⟨hg2.os, hg2.tape, hg2.output, hg2.size, hg2.block⟩; have hz2 := HG2.out.size; have d2 := (grown_cell HG2.out (a := ⟨sb, 0, none⟩) ls1).1.trans d0; have ls2 : sb < w2.heap.size := Nat.lt_of_lt_of_le ls1 HG2.out.size; have lp2 : pb < w2.heap.size := Nat.lt_of_lt_of_le lp1 HG2.out.size; have p0 := (grown_cell HG2.out (a := ⟨pb, k * 3, none⟩) lp1).1.trans HP0.out.1; have p1 := (grown_cell HG2.out (a := ⟨pb, k * 3 + 1, none⟩) lp1).1.trans HP0.out.2.1; have p2 := (grown_cell HG2.out (a := ⟨pb, k * 3 + 2, none⟩) lp1).1.trans HP0.out.2.2; have hx2 := grown_heap HG2.out HX.out (by intro e; cases e); have r0 : w2.cell? ⟨w.heap.size + 1, 0, none⟩ = some (.int .u8 0) := (by simp [World.cell?, hx2]); have r1 : w2.cell? ⟨w.heap.size + 1, 1, none⟩ = some (.int .i64 0) := (by simp [World.cell?, hx2]); have r2 : w2.cell? ⟨w.heap.size + 1, 2, none⟩ = some (.slice none 0 0) := (by simp [World.cell?, hx2]); have t0 : w2.frozen? ⟨w.heap.size + 1, 0, none⟩ = false := (by simp [World.frozen?, hx2]); have t1 : w2.frozen? ⟨w.heap.size + 1, 1, none⟩ = false := (by simp [World.frozen?, hx2]); have t2 : w2.frozen? ⟨w.heap.size + 1, 2, none⟩ = false := (by simp [World.frozen?, hx2]); have lx := heap_lt hx2; clear hg2 hx2)
  all_goals
    go_wp2_with fail
    refine bodyPost_ret (v := .agg #[.int .u8 y0, .int .i64 0, .slice a2 n2 m2]) (by simp [results, Tryz.results202, go_sem, r0, r1, r2]) rfl ⟨rfl, ?_⟩
    have KG2 := grown_trans KG.out HG2.out
    repeat (first | exact KG2 | refine grown_drew ?_ | refine grown_alloc ?_ _ | refine grown_setCell ?_ (Or.inr (by simp)) _)

set_option maxRecDepth 100000 in
set_option maxHeartbeats 1000000 in
theorem indexFree_any (pb n : Nat) (on : Nat → Bool) (f : Nat → Nat) (M : Nat → List B.V) (w : World) (hS : Plc w pb n on f M) (hn : n ≤ 200) :
    Calls Tryz.prog 229 #[.slice (some ⟨pb, 0, none⟩) n n, Fv 140 #[]] w fun e w' => w.grownBy w' none ∧ ((∃ k : Nat, k < n ∧ on (k + 1) = false ∧ e = .returned (.int .i64 k)) ∨ ((∀ p, 1 ≤ p → p ≤ n → on p = true) ∧ e = .returned (.int .i64 (-1)))) := by
  have KS := hid hS
  clear hS
  go_enter Tryz.func229, Tryz.ntmps229
  go_wp2_with fail
  go_loopw [8] (fun i wr => ∃ k : Nat, k ≤ n ∧ i = .int .i64 k ∧ Hid (∀ p, 1 ≤ p → p ≤ k → on p = true) ∧ Hid (w.grownBy wr none)) (fun i _ => n - (intOf i).toNat)
  case atStart => exact ⟨0, by omega, rfl, fun p h1 h2 => (by omega), grown_refl _ _⟩
  case round =>
    obtain ⟨k, hk, rfl, hK, hG⟩ := hrel
    by_cases hlt : k < n
    · have hS := KS.out.kept hG.out
      have c0 := hS.p.cell (k * 3) (by omega)
      have c1 := hS.p.cell (k * 3 + 1) (by omega)
      have c2 := hS.p.cell (k * 3 + 2) (by omega)
      rw [plc_0] at c0
      rw [plc_1] at c1
      rw [plc_2] at c2
      have lp := hS.p.lt
      clear hS
      have hf := isFree_any (on (k + 1)) 0 (slV (on (k + 1)) (f (k + 1)) (M (k + 1)).length)
      obtain ⟨y0, hy0⟩ : ∃ y, kdV (on (k + 1)) = .int .u8 y := ⟨_, rfl⟩
      obtain ⟨a2, n2, m2, hy2⟩ : ∃ a n m, slV (on (k + 1)) (f (k + 1)) (M (k + 1)).length = .slice a n m := by unfold slV; split <;> exact ⟨_, _, _, rfl⟩
      rw [hy0] at c0
      rw [hy2] at c2
      rw [hy0, hy2] at hf
      have HF := hid hf
      clear hf hy0 hy2
      have hlt2 : (k : Int) < (n : Int) := by omega
      go_wp2_with fail
      refine (HF.out _).mono ?_
      rintro e w1 ⟨rfl, hg1⟩
      have KG1 := hid (grown_trans hG.out hg1)
      clear hg1 c0 c1 c2
      cases hkd : on (k + 1)
      · have HK := hid hkd
        clear hkd
        simp only [Bool.not_false]
        go_wp2_with fail
        go_ret
        exact ⟨KG1.out, Or.inl ⟨k, hlt, HK.out, rfl⟩⟩
      · have HK := hid hkd
        clear hkd
        simp only [Bool.not_true]
        go_wp2_with fail
        go_roundw
        case rel =>
          refine ⟨k + 1, by omega, by go_num, fun p h1 h2 => ?_, KG1⟩
          by_cases e : p = k + 1
          · subst e; exact HK.out
          · exact hK.out p h1 (by omega)
        case measure => simp [intOf]; omega
    · obtain rfl : k = n := by omega
      have hge : decide ((k : Int) < (k : Int)) = false := by simp
      go_wp2_with fail
      go_ret
      exact ⟨hG.out, Or.inr ⟨hK.out, rfl⟩⟩

set_option maxRecDepth 100000 in
theorem freePlace_any (sb pb n : Nat) (on : Nat → Bool) (f : Nat → Nat) (M : Nat → List B.V) (w : World) (q0 : w.cell? ⟨sb, 0, none⟩ = some (.slice (some ⟨pb, 0, none⟩) n n)) (hS : Plc w pb n on f M) (hn : n ≤ 200) :
    Calls Tryz.prog 218 #[P0 sb] w fun e w' => w.grownBy w' none ∧ ((∃ k : Nat, k < n ∧ on (k + 1) = false ∧ e = .returned (.int .i64 k)) ∨ ((∀ p, 1 ≤ p → p ≤ n → on p = true) ∧ e = .returned (.int .i64 (-1)))) := by
  have HI := hid (indexFree_any pb n on f M w hS hn)
  clear hS
  go_enter Tryz.func218, Tryz.ntmps218
  go_wp2_with fail
  refine HI.out.mono ?_
  rintro e w1 ⟨hg, ⟨k, h1, h2, rfl⟩ | ⟨h1, rfl⟩⟩
  · have HH := hid (And.intro hg (And.intro h1 h2))
    clear hg h1 h2
    go_wp2_with fail
    go_ret
    exact ⟨HH.out.1, Or.inl ⟨k, HH.out.2.1, HH.out.2.2, rfl⟩⟩
  · have HH := hid (And.intro hg h1)
    clear hg h1
    go_wp2_with fail
    go_ret
    exact ⟨HH.out.1, Or.inr ⟨HH.out.2, rfl⟩⟩

theorem Str.c0 {w : World} {sb pb eb n : Nat} {kd : B.Kd} {vb : Vs} {M : Nat → List B.V} (h : Str w sb pb eb n kd vb M) : w.cell? ⟨sb, 0, none⟩ = some (.slice (some ⟨pb, 0, none⟩) n n) := by simp [World.cell?, h.b]

set_option maxRecDepth 100000 in
/-- How many slots a cell has; of a number there are none. -/
theorem slots_any (sb pb eb n : Nat) (v : B.V) (kd : B.Kd) (vb : Vs) (M : Nat → List B.V) (w : World) (hS : Str w sb pb eb n kd vb M) (hn : n ≤ 200) (hv : B.Vok kd.on n v) :
    Calls Tryz.prog 200 #[P0 sb, vA v] w fun e w' => w.grownBy w' none ∧ ((v.1 = 0 ∧ e = .returned (.tuple #[.int .i64 0, .bool false])) ∨ (v.1 ≠ 0 ∧ e = .returned (.tuple #[.int .i64 (M v.1).length, .bool true]))) := by
  have KS := hid hS
  clear hS
  obtain ⟨v1, v2⟩ := v
  rcases hv with hv | ⟨hv1, hv2, hv3, hv4⟩
  · have hv : v1 = 0 := hv
    subst hv
    go_enter Tryz.func200, Tryz.ntmps200
    go_wp2_with fail
    refine (cellOf_none sb v2 _).mono ?_
    rintro e w1 ⟨rfl, hg⟩
    have KG := hid (grown_trans (World.grownBy_alloc w _ none) hg)
    clear hg
    go_wp2_with fail
    go_ret2
    exact ⟨grown_alloc KG.out _, Or.inl ⟨trivial, rfl⟩⟩
  · obtain ⟨k, hk⟩ : ∃ k, v1 = k + 1 := ⟨v1 - 1, by have : 1 ≤ v1 := hv1; omega⟩
    subst hk
    have hkd : kd.on (k + 1) = true := hv3
    have hkn : k < n := by have : k + 1 ≤ n := hv2; omega
    have ha := fun w' (hS : Str w' sb pb eb n kd vb M) => cellOf_some sb pb n k v2 kd.on vb.f M w' hS.c0 (heap_lt hS.b) hS.p hkn hn
    have e0 : kdV (kd.on (k + 1)) = .int .u8 1 := by rw [hkd]; rfl
    have e2 : slV (kd.on (k + 1)) (vb.f (k + 1)) (M (k + 1)).length = .slice (some ⟨vb.f (k + 1), 0, none⟩) (M (k + 1)).length (M (k + 1)).length := by rw [hkd]; rfl
    rw [e0, e2] at ha
    generalize (M (k + 1)).length = m at *
    generalize vb.f (k + 1) = g at *
    have HA := hid ha
    clear ha e0 e2 hv1 hv2 hv3 hv4 hkd
    go_enter Tryz.func200, Tryz.ntmps200
    go_wp2_with fail
    refine (HA.out _ (KS.out.kept (World.grownBy_alloc _ _ _))).mono ?_
    rintro e w1 ⟨rfl, hg⟩
    have KG := hid (grown_trans (World.grownBy_alloc w _ none) hg)
    clear hg
    go_wp2_with fail
    go_ret2
    exact ⟨grown_alloc KG.out _, Or.inr ⟨by simp, rfl⟩⟩

set_option maxRecDepth 100000 in
set_option maxHeartbeats 1000000 in
/-- What is in a slot. -/
theorem slotOf_any (sb pb eb n k i : Nat) (x : Int) (kd : B.Kd) (vb : Vs) (M : Nat → List B.V) (w : World) (hS : Str w sb pb eb n kd vb M) (hn : n ≤ 200) (hk : k < n) (hkd : kd.on (k + 1) = true) (hi : i < (M (k + 1)).length) :
    Calls Tryz.prog 159 #[P0 sb, vA (k + 1, x), .int .i64 i] w fun e w' => e = .returned (vA ((M (k + 1)).getD i (0, 0))) ∧ w.grownBy w' none := by
  have h0 := hS.c0
  have ls := heap_lt hS.b
  have lp := hS.p.p.lt
  have c2 := hS.p.p.cell (k * 3 + 2) (by omega)
  rw [plc_2, hkd] at c2
  have hF := hS.p.s (k + 1) (by omega) (by omega) hkd
  have lf := hF.lt
  have s0 := hF.cell (i * 2) (by omega)
  have s1 := hF.cell (i * 2 + 1) (by omega)
  rw [regP_0] at s0
  rw [regP_1] at s1
  have hsl : slV true (vb.f (k + 1)) (M (k + 1)).length = .slice (some ⟨vb.f (k + 1), 0, none⟩) (M (k + 1)).length (M (k + 1)).length := rfl
  rw [hsl] at c2
  have HPL := hid (place_any k x (by omega))
  have hl8 := hS.p.l _ hkd
  show Calls Tryz.prog 159 #[P0 sb, vA (k + 1, x), .int .i64 i] w fun e w' => e = .returned (vA (slots M (k + 1) i)) ∧ w.grownBy w' none
  generalize slots M (k + 1) i = y at *
  generalize (M (k + 1)).length = m at *
  generalize vb.f (k + 1) = g at *
  clear hS hsl hF
  have hk2 : (k : Int) < (n : Int) := by omega
  have hi2 : (i : Int) < (m : Int) := by omega
  go_enter Tryz.func159, Tryz.ntmps159
  go_wp2_with fail
  generalize hW : (w.alloc (.cells #[.int .i64 ((k : Int) + 1), .int .i64 x] 149)).alloc (.cells #[.int .i64 0, .int .i64 0] 149) = w1
  have KG : Hid (w.grownBy w1 none) := by rw [← hW]; exact grown_alloc (World.grownBy_alloc _ _ _) _
  have hz : w1.heap.size = w.heap.size + 2 := by rw [← hW]; simp
  have hx : w1.heap[w.heap.size + 1]? = some (.cells #[.int .i64 0, .int .i64 0] 149 (0, 0)) := by
    rw [← hW]
    have := heap_alloc_new (w.alloc (.cells #[.int .i64 ((k : Int) + 1), .int .i64 x] 149)) (.cells #[.int .i64 0, .int .i64 0] 149)
    simpa using this
  have hv : w1.heap[w.heap.size]? = some (.cells #[.int .i64 ((k : Int) + 1), .int .i64 x] 149 (0, 0)) := by
    rw [← hW, Below.heap_alloc _ _ _ (by simp)]; exact heap_alloc_new w _
  clear hW
  have v0 : w1.cell? ⟨w.heap.size, 0, none⟩ = some (.int .i64 ((k : Int) + 1)) := by simp [World.cell?, hv]
  have v1 : w1.cell? ⟨w.heap.size, 1, none⟩ = some (.int .i64 x) := by simp [World.cell?, hv]
  have lv := heap_lt hv
  have HX := hid hx
  have d0 := (grown_cell KG.out (a := ⟨sb, 0, none⟩) ls).1.trans h0
  have p2 := (grown_cell KG.out (a := ⟨pb, k * 3 + 2, none⟩) lp).1.trans c2
  have q0 := (grown_cell KG.out (a := ⟨g, i * 2, none⟩) lf).1.trans s0
  have q1 := (grown_cell KG.out (a := ⟨g, i * 2 + 1, none⟩) lf).1.trans s1
  have ls1 : sb < w1.heap.size := by omega
  have lp1 : pb < w1.heap.size := by omega
  have lf1 : g < w1.heap.size := by omega
  have HQ := hid (And.intro p2 (And.intro q0 q1))
  clear hx hv h0 c2 s0 s1 p2 q0 q1 hz
  go_region_with (go_at_call 201; refine (HPL.out w1.drew).mono ?_; rintro e w2 ⟨rfl, hg2⟩; have HG2 : Hid (w1.grownBy w2 none) := ⟨hg2.os, hg2.tape, hg2.output, hg2.size, hg2.block⟩; have hz2 := HG2.out.size; have d2 := (grown_cell HG2.out (a := ⟨sb, 0, none⟩) ls1).1.trans d0; have ls2 : sb < w2.heap.size := Nat.lt_of_lt_of_le ls1 HG2.out.size; have lp2 : pb < w2.heap.size := Nat.lt_of_lt_of_le lp1 HG2.out.size; have lf2 : g < w2.heap.size := Nat.lt_of_lt_of_le lf1 HG2.out.size; have p2 := (grown_cell HG2.out (a := ⟨pb, k * 3 + 2, none⟩) lp1).1.trans HQ.out.1; have q0 := (grown_cell HG2.out (a := ⟨g, i * 2, none⟩) lf1).1.trans HQ.out.2.1; have q1 := (grown_cell HG2.out (a := ⟨g, i * 2 + 1, none⟩) lf1).1.trans HQ.out.2.2; have hx2 := grown_heap HG2.out HX.out (by intro e; cases e); have r0 : w2.cell? ⟨w.heap.size + 1, 0, none⟩ = some (.int .i64 0) := (by simp [World.cell?, hx2]); have r1 : w2.cell? ⟨w.heap.size + 1, 1, none⟩ = some (.int .i64 0) := (by simp [World.cell?, hx2]); have t0 : w2.frozen? ⟨w.heap.size + 1, 0, none⟩ = false := (by simp [World.frozen?, hx2]); have t1 : w2.frozen? ⟨w.heap.size + 1, 1, none⟩ = false := (by simp [World.frozen?, hx2]); have lx := heap_lt hx2; clear hg2 hx2)
  all_goals
    go_wp2_with fail
    refine bodyPost_ret (v := vA y) (by simp [results, Tryz.results159, go_sem, r0, r1]) rfl ⟨rfl, ?_⟩
    have KG2 := grown_trans KG.out HG2.out
    repeat (first | exact KG2 | refine grown_drew ?_ | refine grown_alloc ?_ _ | refine grown_setCell ?_ (Or.inr (by simp)) _)
end Go.Proofs.YtnjiinbhbjpfkaaGreatDoor

/-
  The collector: a cell is marked, because it can be reached or because it is new.
-/
namespace Go.Proofs.YtnjiinbhbjpfkaaGreatDoor
open Go.RowKit

theorem Tryz.info3 : (Tryz.prog.info? 3).map (fun i => (i.zero, i.size, i.bytes)) = some (some (.int .i64 0), 1, 8) := by kernel_rfl
theorem Cym.c1 {w : World} {cb rd sb n : Nat} {ad : Option Addr} {cap : Nat} {c : B.Cy} (h : Cym w cb rd sb n ad cap c) : w.cell? ⟨cb, 0, none⟩ = some (P0 sb) ∧ w.cell? ⟨cb, 1, none⟩ = some (.slice (some ⟨rd, 0, none⟩) n n) ∧ w.cell? ⟨cb, 2, none⟩ = some (.slice ad c.st.length cap) ∧ w.cell? ⟨cb, 3, none⟩ = some (.int .i64 c.nx) ∧ w.frozen? ⟨cb, 2, none⟩ = false ∧ w.frozen? ⟨cb, 3, none⟩ = false := by
  simp [World.cell?, World.frozen?, h.b]
/-- The stack's new block is the old one, or new. -/
def Nad (ad ad' : Option Addr) (sz : Nat) : Prop := ∀ k, adB ad' = some k → adB ad = some k ∨ sz ≤ k
theorem Nad.refl (ad : Option Addr) (sz : Nat) : Nad ad ad sz := fun _ h => Or.inl h
theorem Nad.trans {a b c : Option Addr} {sz sz' : Nat} (h : Nad a b sz) (h' : Nad b c sz') (hs : sz ≤ sz') : Nad a c sz := fun k hk => by
  rcases h' k hk with h1 | h1
  · exact h k h1
  · exact Or.inr (by omega)
/-- A cycle's blocks are those of before, or new. -/
theorem Nad.cyb {cb rd : Nat} {ad ad' : Option Addr} {sz k : Nat} (h : Nad ad ad' sz) (hk : CyB cb rd ad' k) : CyB cb rd ad k ∨ sz ≤ k := by
  rcases hk with h1 | h1 | h1
  · exact Or.inl (Or.inl h1)
  · exact Or.inl (Or.inr (Or.inl h1))
  · exact (h k h1).imp (fun h => Or.inr (Or.inr h)) id

theorem only_row {S : Nat → Prop} {w w' : World} {r : Option Nat} (h : w.grownBy w' r) (hr : ∀ k, r = some k → k < w.heap.size → S k) : Only S w w' :=
  ⟨h.os, h.tape, h.output, h.size, fun k hk hn => h.block k hk (fun e => hn (hr k e.symm hk))⟩

set_option maxRecDepth 100000 in
set_option maxHeartbeats 4000000 in
theorem reach_any (cb rd sb n : Nat) (ad : Option Addr) (cap : Nat) (c : B.Cy) (v : B.V) (w : World) (hC : Cym w cb rd sb n ad cap c) (hv : v.1 ≠ 0 → v.1 ≤ n) (hn : n ≤ 200) (hst : c.st.length ≤ 200) :
    Calls Tryz.prog 188 #[P0 cb, vA v] w fun e w' => e = .returned (.tuple #[]) ∧ ∃ ad' cap', Nad ad ad' w.heap.size ∧ Cym w' cb rd sb n ad' cap' ⟨(B.seen c.m c.st v).1, (B.seen c.m c.st v).2, c.nx⟩ ∧ Only (CyB cb rd ad) w w' := by
  have KC := hid hC
  have HI0 := hid (isCell_any v)
  obtain ⟨v1, v2⟩ := v
  by_cases h0 : v1 = 0
  · subst h0
    have hse : B.seen c.m c.st (0, v2) = (c.m, c.st) := by unfold B.seen; rw [if_neg (by simp)]
    rw [hse]
    have hi := HI0.out
    simp only [ne_eq, not_true, decide_false] at hi
    have HI := hid hi
    clear hse hC hv hi HI0
    go_enter Tryz.func188, Tryz.ntmps188
    go_wp2_with fail
    have KG1 := hid (World.grownBy_alloc w (.cells #[.int .i64 ((0 : Nat) : Int), .int .i64 v2] 149) none)
    first | go_region_with (go_at_call 198; refine (HI.out _).mono ?_; rintro e w2 ⟨rfl, hg2⟩; have HG2 : Hid (w.grownBy w2 none) := grown_trans KG1.out ⟨hg2.os, hg2.tape, hg2.output, hg2.size, hg2.block⟩; clear hg2) | fail
    all_goals
      go_wp2_with fail
      go_end0
      exact ⟨rfl, ad, cap, Nad.refl _ _, KC.out.kept HG2.out, only_none HG2.out⟩
  · obtain ⟨k, hk⟩ : ∃ k, v1 = k + 1 := ⟨v1 - 1, by omega⟩
    subst hk
    have hkn : k < n := by have := hv (by simp); simp only at this; omega
    have hi := HI0.out
    have hd : decide (k + 1 ≠ 0) = true := by simp
    rw [show ((k + 1, v2) : B.V).1 = k + 1 from rfl, hd] at hi
    have HI := hid hi
    have HPL := hid (place_any k v2 (by omega))
    obtain ⟨_, c1, _⟩ := hC.c1
    have lc := heap_lt hC.b
    have lr := hC.r.lt
    have r0 := hC.r.cell k hkn
    clear hC hv hi hd HI0 h0
    generalize hmk : c.m (k + 1) = b at *
    have HMK := hid hmk
    clear hmk
    have hki : (k : Int) < (n : Int) := by omega
    go_enter Tryz.func188, Tryz.ntmps188
    go_wp2_with fail
    generalize hW : w.alloc (.cells #[.int .i64 ((k : Int) + 1), .int .i64 v2] 149) = w1
    have KG1 : Hid (w.grownBy w1 none) := by rw [← hW]; exact World.grownBy_alloc _ _ _
    have hx1 : w1.heap[w.heap.size]? = some (.cells #[.int .i64 ((k : Int) + 1), .int .i64 v2] 149 (0, 0)) := by rw [← hW]; exact heap_alloc_new w _
    have lx := heap_lt hx1
    have v0 : w1.cell? ⟨w.heap.size, 0, none⟩ = some (.int .i64 ((k : Int) + 1)) := by simp [World.cell?, hx1]
    have v1 : w1.cell? ⟨w.heap.size, 1, none⟩ = some (.int .i64 v2) := by simp [World.cell?, hx1]
    clear hW hx1
    have d1 := (grown_cell KG1.out (a := ⟨cb, 1, none⟩) lc).1.trans c1
    have q0 := (grown_cell KG1.out (a := ⟨rd, k, none⟩) lr).1.trans r0
    have hz1 := KG1.out.size
    have HS : Hid (∀ w' : World, w1.grownBy w' none → (w'.cell? ⟨w.heap.size, 0, none⟩ = some (.int .i64 ((k : Int) + 1)) ∧ w'.cell? ⟨w.heap.size, 1, none⟩ = some (.int .i64 v2) ∧ w'.cell? ⟨cb, 1, none⟩ = some (.slice (some ⟨rd, 0, none⟩) n n) ∧ w'.cell? ⟨rd, k, none⟩ = some (.bool b)) ∧ (w.heap.size < w'.heap.size ∧ cb < w'.heap.size ∧ rd < w'.heap.size)) :=
      fun w' hg => ⟨⟨(grown_cell hg (a := ⟨w.heap.size, 0, none⟩) lx).1.trans v0, (grown_cell hg (a := ⟨w.heap.size, 1, none⟩) lx).1.trans v1, (grown_cell hg (a := ⟨cb, 1, none⟩) (by show cb < _; omega)).1.trans d1, (grown_cell hg (a := ⟨rd, k, none⟩) (by show rd < _; omega)).1.trans q0⟩, by have := hg.size; omega, by have := hg.size; omega, by have := hg.size; omega⟩
    clear c1 r0 d1 q0 v0 v1
    obtain ⟨⟨v0, v1, d1, q0⟩, z1, z2, z3⟩ := HS.out w1 (grown_refl _ _)
    go_cut [16] from 4 to 15 (fun x wx => x = .bool (!b) ∧ Hid (w1.grownBy wx none))
    case first =>
      first | go_region_with (first | (go_at_call 198; refine (HI.out _).mono ?_; rintro e w2 ⟨rfl, hg2⟩; have HG2 : Hid (w1.grownBy w2 none) := ⟨hg2.os, hg2.tape, hg2.output, hg2.size, hg2.block⟩; obtain ⟨⟨v0', v1', d1', q0'⟩, z1', z2', z3'⟩ := HS.out w2 HG2.out; clear hg2) | (go_at_call 201; refine (HPL.out _).mono ?_; rintro e w3 ⟨rfl, hg3⟩; have HG3 : Hid (w1.grownBy w3 none) := grown_trans HG2.out ⟨hg3.os, hg3.tape, hg3.output, hg3.size, hg3.block⟩; obtain ⟨⟨v0'', v1'', d1'', q0''⟩, z1'', z2'', z3''⟩ := HS.out w3 HG3.out; clear hg3)) | fail
      all_goals
        go_wp2_with fail
        go_meet
        case rel => exact ⟨rfl, HG3⟩
    case rest =>
      obtain ⟨rfl, HG3⟩ := hcut
      clear v0 v1 d1 q0 z1 z2 z3
      cases b
      · have HSE : Hid (B.seen c.m c.st (k + 1, v2) = (B.mark c.m (k + 1), c.st ++ [k + 1])) := by show _ = _; unfold B.seen; rw [if_pos ⟨by simp, HMK.out⟩]
        obtain ⟨⟨v0, v1, d1, q0⟩, z1, z2, z3⟩ := HS.out wc HG3.out
        have f0 : wc.frozen? ⟨rd, k, none⟩ = false := by
          have h := (KC.out.kept KG1.out).kept HG3.out
          exact (h.r.cells k hkn).2
        go_wp2_with fail
        generalize hwd : wc = wd at *
        clear hwd
        go_cut [] from 17 to 23 (fun wx => ∃ w4, Hid (w1.grownBy w4 none) ∧ wx = w4.setCell ⟨rd, k, none⟩ (.bool true))
        case first =>
          go_region_with (go_at_call 201; refine (HPL.out _).mono ?_; rintro e w4 ⟨rfl, hg4⟩; have HG4 : Hid (w1.grownBy w4 none) := grown_trans HG3.out ⟨hg4.os, hg4.tape, hg4.output, hg4.size, hg4.block⟩; obtain ⟨⟨v0', v1', d1', q0'⟩, z1', z2', z3'⟩ := HS.out w4 HG4.out; have f0' : w4.frozen? ⟨rd, k, none⟩ = false := (((KC.out.kept KG1.out).kept HG4.out).r.cells k hkn).2; clear hg4)
          all_goals
            go_wp2_with fail
            go_meet
            case rel => exact ⟨w4, HG4, rfl⟩
        case rest =>
          obtain ⟨w4, HG4, hwc⟩ := hcut
          have hC4 := (KC.out.kept KG1.out).kept HG4.out
          obtain ⟨⟨v0', v1', d1', q0'⟩, z1', z2', z3'⟩ := HS.out w4 HG4.out
          have hzc : wc.heap.size = w4.heap.size := by rw [hwc]; simp [World.setCell]
          have hbk : ∀ x, x ≠ rd → wc.heap[x]? = w4.heap[x]? := fun x hx => by rw [hwc, Below.heap_setCell _ _ _ _ hx]
          have ncr : cb ≠ rd := by obtain ⟨cu, h, _⟩ := hC4.r; exact cells_ne hC4.b h (by decide)
          have nxr : w.heap.size ≠ rd := by have := KC.out.r.lt; omega
          have HCB : Hid (wc.heap[cb]? = some (.cells #[P0 sb, .slice (some ⟨rd, 0, none⟩) n n, .slice ad c.st.length cap, .int .i64 c.nx] 275 (0, 0))) := (hbk cb ncr).trans hC4.b
          have HR : Hid (Full wc rd 4 n n (fun j => .bool (B.mark c.m (k + 1) (j + 1)))) := by
            have h1 := hC4.r.upd k (.bool true)
            rw [← hwc] at h1
            refine h1.congr (fun j _ => ?_)
            by_cases e : j = k
            · subst e; rw [upd_at, B.mark_at]
            · rw [upd_off _ _ _ _ e, B.mark_off _ _ _ (by omega)]
          have HQ : Hid (Qrow wc 3 (.slice ad c.st.length cap) (stL c.st)) := hC4.q.block (fun x hx => hbk x (by
            obtain ⟨cu, h⟩ := hC4.q.ty x hx
            obtain ⟨cu', h', _⟩ := hC4.r
            exact cells_ne h h' (by decide)))
          have HKO : Hid (Only (CyB cb rd ad) w wc) := by
            show Only _ _ _
            rw [hwc]
            exact only_setCell (only_none (grown_trans KG1.out HG4.out)) (Or.inl (Or.inr (Or.inl rfl))) _
          have x0 : wc.cell? ⟨w.heap.size, 0, none⟩ = some (.int .i64 ((k : Int) + 1)) := (World.cell?_of_block (a := ⟨w.heap.size, 0, none⟩) (hbk _ nxr)).trans v0'
          have x1 : wc.cell? ⟨w.heap.size, 1, none⟩ = some (.int .i64 v2) := (World.cell?_of_block (a := ⟨w.heap.size, 1, none⟩) (hbk _ nxr)).trans v1'
          have y2 : wc.cell? ⟨cb, 2, none⟩ = some (.slice ad c.st.length cap) := by simp [World.cell?, HCB.out]
          have g2 : wc.frozen? ⟨cb, 2, none⟩ = false := by simp [World.frozen?, HCB.out]
          have lxc : w.heap.size < wc.heap.size := by omega
          have lcc : cb < wc.heap.size := by omega
          have hsz : w.heap.size ≤ wc.heap.size := by omega
          have hlen : (stL c.st).length = c.st.length := stL_len _
          have hL : stL (c.st ++ [k + 1]) = stL c.st ++ [.int .i64 (k : Int)] := by rw [stL_app]; rfl
          have HL := hid hL
          have HNQ : Hid (adB ad ≠ some cb) := fun e => by
            obtain ⟨cu, h⟩ := HQ.out.ty cb (by rw [own_adB]; exact e)
            exact cells_ne HCB.out h (by decide) rfl
          have HLN := hid hlen
          clear hC4 hbk hwc v0' v1' d1' q0' v0 v1 d1 q0 f0 z1 z2 z3 z1' z2' z3' hzc hL hlen
          obtain ⟨i0, hi, hz0, hz1', hzb⟩ := info_parts Tryz.info3
          have HP2 : Hid (∀ w' : World, wc.grownBy w' none → w'.cell? ⟨cb, 2, none⟩ = some (.slice ad c.st.length cap) ∧ w'.frozen? ⟨cb, 2, none⟩ = false ∧ cb < w'.heap.size) := fun w' hg => ⟨(grown_cell hg (a := ⟨cb, 2, none⟩) lcc).1.trans y2, (grown_cell hg (a := ⟨cb, 2, none⟩) lcc).2.trans g2, Nat.lt_of_lt_of_le lcc hg.size⟩
          have hmx : (stL c.st).length + 1 ≤ maxLen := by rw [HLN.out]; unfold maxLen; omega
          have hby : ((stL c.st).length + 1) * 8 ≤ 140737488355328 := by rw [HLN.out]; omega
          have HMX := hid (And.intro hmx hby)
          clear hmx hby
          rw [← HLN.out] at y2
          go_wp2_with fail
          go_region_law (first | (refine step_append_q _ rfl (.tmp 28) (.tmp 31) 54 rfl 3 i0 _ 8 Tryz.underlying54 hi hz0 hz1' hzb rfl (.slice ad (stL c.st).length cap) (stL c.st) (by first | rfl | simp [Act.eval, Act.put]) (HQ6.out) ⟨w5.heap.size, 0, none⟩ 1 (.int .i64 (k : Int)) (by first | rfl | simp [Act.eval, Act.put]) (by simp [go_sem]) rfl HMX.out.1 HMX.out.2 ?_; intro g off cap' w6 hq6 hg6 hn6; have HQ7 := hid hq6; have HG7 := hid hg6; have HN7 := hid hn6; have hcb6 : w6.heap[cb]? = _ := (hg6.block cb (by simp; omega) (by rw [own_adB]; exact fun e => HNQ.out e.symm)).trans ((Below.heap_alloc _ _ _ z5).trans (grown_heap HG5.out HCB.out (by intro e; cases e))); have y6 : w6.cell? ⟨cb, 2, none⟩ = some (.slice ad c.st.length cap) := (by simp [World.cell?, hcb6]); have g6 : w6.frozen? ⟨cb, 2, none⟩ = false := (by simp [World.frozen?, hcb6]); have l6 := heap_lt hcb6; have HCB6 := hid hcb6; clear hq6 hg6 hn6 hcb6) | (go_simp; go_at_call 201; refine (HPL.out _).mono ?_; rintro e w5 ⟨rfl, hg5⟩; have HG5 : Hid (wc.grownBy w5 none) := ⟨hg5.os, hg5.tape, hg5.output, hg5.size, hg5.block⟩; obtain ⟨y5, g5, z5⟩ := HP2.out w5 HG5.out; have HQ6 : Hid (Qrow (w5.alloc (.cells #[.int .i64 (k : Int)] 3)) 3 (.slice ad (stL c.st).length cap) (stL c.st)) := (by rw [HLN.out]; exact HQ.out.block (fun x hx => (Below.heap_alloc _ _ _ (Nat.lt_of_lt_of_le (HQ.out.lt x hx) HG5.out.size)).trans (HG5.out.block x (HQ.out.lt x hx) (by intro e; cases e)))); rw [← HLN.out] at y5; clear hg5; simp only []))
          all_goals
            go_wp2_with fail
            go_end0
            have hz5 := HG5.out.size
            have hl7 := HLN.out
            obtain ⟨cuR, hR1, hR2⟩ := id HR.out
            have hbk7 : ∀ (x : Nat) (cur : Array Value) (T : TypeId), wc.heap[x]? = some (.cells cur T (0, 0)) → T ≠ 3 → x ≠ cb → (w6.setCell ⟨cb, 2, none⟩ (.slice (some ⟨g, off, none⟩) ((stL c.st).length + 1) cap')).heap[x]? = wc.heap[x]? := by
              intro x cur T hx hT hne
              have lx5 : x < w5.heap.size := Nat.lt_of_lt_of_le (heap_lt hx) hz5
              rw [Below.heap_setCell _ _ _ _ hne, HG7.out.block x (by simp; omega) (fun e => ?_), Below.heap_alloc _ _ _ lx5]
              · exact HG5.out.block x (heap_lt hx) (by intro e; cases e)
              · obtain ⟨cu, h⟩ := HQ.out.ty x (by rw [own_adB]; rw [own_adB] at e; exact e.symm)
                rw [hx] at h; injection h with h; injection h with _ h _; exact hT h
            have ncg : g ≠ cb := by
              obtain ⟨cu, h⟩ := HQ7.out.ty g rfl
              exact cells_ne h HCB6.out (by decide)
            refine ⟨rfl, some ⟨g, off, none⟩, cap', fun x hx => ?_, ?_, ?_⟩
            · have e : g = x := by injection hx
              subst e
              rcases HN7.out with h | h
              · rw [own_adB] at h; exact Or.inl h
              · right; simp at h; omega
            · rw [HSE.out]
              refine ⟨?_, ⟨cuR, (hbk7 rd _ _ hR1 (by decide) (fun e => ncr e.symm)).trans hR1, hR2⟩, ?_⟩
              · simp [World.setCell, Array.getElem?_modify, HCB6.out, hl7]
              · show Qrow _ _ (.slice _ (c.st ++ [k + 1]).length _) (stL (c.st ++ [k + 1]))
                rw [HL.out, List.length_append, List.length_singleton, ← hl7]
                refine HQ7.out.block (fun x hx => Below.heap_setCell _ _ _ _ ?_)
                have e : g = x := by injection hx
                subst e; exact ncg
            · refine only_setCell ?_ (Or.inl (Or.inl rfl)) _
              refine ((HKO.out.then0 HG5.out).then0 (World.grownBy_alloc _ _ _)).trans (only_row (S := CyB cb rd ad) HG7.out (fun x hx _ => Or.inr (Or.inr (by rw [own_adB] at hx; exact hx)))) (fun _ h _ => h)
      · have HSE : Hid (B.seen c.m c.st (k + 1, v2) = (c.m, c.st)) := by show _ = _; unfold B.seen; rw [if_neg (by simp [HMK.out])]
        go_wp2_with fail
        go_end0
        have hg := grown_trans KG1.out HG3.out
        exact ⟨rfl, ad, cap, Nad.refl _ _, by rw [HSE.out]; exact KC.out.kept hg, only_none hg⟩

set_option maxRecDepth 100000 in
set_option maxHeartbeats 1000000 in
/-- A new cell stays. -/
theorem keepc_any (cb rd sb n k : Nat) (ad : Option Addr) (cap : Nat) (c : B.Cy) (x : Int) (w : World) (hC : Cym w cb rd sb n ad cap c) (hk : k < n) (hn : n ≤ 200) :
    Calls Tryz.prog 221 #[P0 cb, vA (k + 1, x)] w fun e w' => e = .returned (.tuple #[]) ∧ Cym w' cb rd sb n ad cap ⟨B.mark c.m (k + 1), c.st, c.nx⟩ ∧ w.grownBy w' (some rd) := by
  have KC := hid hC
  have HPL := hid (place_any k x (by omega))
  obtain ⟨_, c1, _⟩ := hC.c1
  have lc := heap_lt hC.b
  have lr := hC.r.lt
  have hki : (k : Int) < (n : Int) := by omega
  clear hC
  go_enter Tryz.func221, Tryz.ntmps221
  go_wp2_with fail
  generalize hW : w.alloc (.cells #[.int .i64 ((k : Int) + 1), .int .i64 x] 149) = w1
  have KG1 : Hid (w.grownBy w1 none) := by rw [← hW]; exact World.grownBy_alloc _ _ _
  have hx1 : w1.heap[w.heap.size]? = some (.cells #[.int .i64 ((k : Int) + 1), .int .i64 x] 149 (0, 0)) := by rw [← hW]; exact heap_alloc_new w _
  have lx := heap_lt hx1
  have v0 : w1.cell? ⟨w.heap.size, 0, none⟩ = some (.int .i64 ((k : Int) + 1)) := by simp [World.cell?, hx1]
  have v1 : w1.cell? ⟨w.heap.size, 1, none⟩ = some (.int .i64 x) := by simp [World.cell?, hx1]
  have d1 := (grown_cell KG1.out (a := ⟨cb, 1, none⟩) lc).1.trans c1
  have hz1 := KG1.out.size
  have lc1 : cb < w1.heap.size := by omega
  clear hW hx1 c1
  go_region_with (go_at_call 201; refine (HPL.out _).mono ?_; rintro e w4 ⟨rfl, hg4⟩; have HG4 : Hid (w1.grownBy w4 none) := ⟨hg4.os, hg4.tape, hg4.output, hg4.size, hg4.block⟩; have hC4 := (KC.out.kept KG1.out).kept HG4.out; obtain ⟨q0, f0⟩ := hC4.r.cells k hk; have d1' := hC4.c1.2.1; have lc4 := heap_lt hC4.b; have lr4 := hC4.r.lt; clear hg4 hC4)
  all_goals
    go_wp2_with fail
    go_end0
    have hC4 := (KC.out.kept KG1.out).kept HG4.out
    have ncr : cb ≠ rd := by obtain ⟨cu, h, _⟩ := hC4.r; exact cells_ne hC4.b h (by decide)
    refine ⟨rfl, ⟨(Below.heap_setCell _ _ _ _ ncr).trans hC4.b, (hC4.r.upd k (.bool true)).congr (fun j _ => ?_), hC4.q.block (fun y hy => Below.heap_setCell _ _ _ _ ?_)⟩, ?_⟩
    · show _ = Value.bool (B.mark c.m (k + 1) (j + 1))
      by_cases e : j = k
      · subst e; rw [upd_at, B.mark_at]
      · rw [upd_off _ _ _ _ e, B.mark_off _ _ _ (by omega)]
    · obtain ⟨cu, h⟩ := hC4.q.ty y hy
      obtain ⟨cu', h', _⟩ := hC4.r
      exact cells_ne h h' (by decide)
    · exact grown_setCell (grown_of_none (grown_trans KG1.out HG4.out)) (Or.inl rfl) _
end Go.Proofs.YtnjiinbhbjpfkaaGreatDoor
