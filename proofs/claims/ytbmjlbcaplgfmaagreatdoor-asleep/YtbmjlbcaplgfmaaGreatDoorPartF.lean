/-
  The collector goes through what can be reached: one visit.
-/
import Derived.Test.YtbmjlbcaplgfmaaGreatDoorPartE
import Derived.Test.YtbmjlbcaplgfmaaGreatDoorPartA
namespace Go.Proofs.YtbmjlbcaplgfmaaGreatDoor
open Go.RowKit

/-- Cells in a row, by their places. -/
def stL (vb : Nat → Nat) (M : Nat → List B.V) (st : List Nat) : List Value := st.flatMap (fun p => [.int .u8 1, .int .i64 0, .slice (some ⟨vb p, 0, none⟩) (M p).length (M p).length])
theorem stL_app (vb : Nat → Nat) (M : Nat → List B.V) (a b : List Nat) : stL vb M (a ++ b) = stL vb M a ++ stL vb M b := by simp [stL]
theorem stL_len (vb : Nat → Nat) (M : Nat → List B.V) (st : List Nat) : (stL vb M st).length = st.length * 3 := by
  induction st with
  | nil => rfl
  | cons a r ih => rw [show a :: r = [a] ++ r from rfl, stL_app, List.length_append, ih]; simp [stL]; omega
theorem Tryz.info278 : (Tryz.prog.info? 278).map (fun i => (i.zero, i.size, i.bytes)) = some (some (.agg #[.int .u8 0, .int .i64 0, .slice none 0 0]), 3, 40) := by kernel_rfl

/-- The variables of the walk: the marks, the stack, the store. -/
def Mrk (w : World) (base xr xa xs sb rd n : Nat) (vb : Nat → Nat) (M : Nat → List B.V) (m : Nat → Bool) (st : List Nat) : Prop :=
  w.heap[xs]? = some (.cells #[P0 sb] 134 (0, 0)) ∧ w.heap[xr]? = some (.cells #[.slice (some ⟨rd, 0, none⟩) n n] 225 (0, 0)) ∧ Full w rd 4 n n (fun j => .bool (m (j + 1))) ∧ base ≤ xs ∧ base ≤ xr ∧ base ≤ xa ∧ base ≤ rd ∧ base ≤ w.heap.size ∧
  ∃ ad cap, w.heap[xa]? = some (.cells #[.slice ad st.length cap] 202 (0, 0)) ∧ w.ownsRow base 278 3 (.slice ad st.length cap) st.length (stL vb M st)
theorem Mrk.kept {w w' : World} {base xr xa xs sb rd n : Nat} {vb : Nat → Nat} {M : Nat → List B.V} {m : Nat → Bool} {st : List Nat} (h : Mrk w base xr xa xs sb rd n vb M m st) (hg : w.grownBy w' none) : Mrk w' base xr xa xs sb rd n vb M m st := by
  obtain ⟨h1, h2, h3, h4, h5, h6, h7, h8, ad, cap, h9, h10⟩ := h
  have hk : ∀ k, k < w.heap.size → w'.heap[k]? = w.heap[k]? := fun k hk => hg.block k hk (by intro e; cases e)
  exact ⟨(hk _ (heap_lt h1)).trans h1, (hk _ (heap_lt h2)).trans h2, h3.block (hk _ h3.lt), h4, h5, h6, h7, Nat.le_trans h8 hg.size, ad, cap, (hk _ (heap_lt h9)).trans h9, own_of h10 (fun k h => hk k (own_ty h10 k h).2.1)⟩
/-- Blocks under a bound stay. -/
theorem Str.below {w w' : World} {base sb pb eb n : Nat} {kd : Nat → Bool} {vb : Nat → Nat} {M : Nat → List B.V} (h : Str w sb pb eb n kd vb M) (hb : Below base w w') (h1 : sb < base) (h2 : pb < base) (h3 : ∀ p, 1 ≤ p → p ≤ n → kd p = true → vb p < base) : Str w' sb pb eb n kd vb M :=
  ⟨(hb.block _ h1).trans h.1, h.2.1.block (hb.block _ h2), fun p a b c => (h.2.2.1 p a b c).block (hb.block _ (h3 p a b c)), h.2.2.2⟩

theorem cells_ne {w : World} {a b : Nat} {x y : Array Value} {S T : TypeId} {f g : Nat × Nat} (h1 : w.heap[a]? = some (.cells x S f)) (h2 : w.heap[b]? = some (.cells y T g)) (h : S ≠ T) : a ≠ b := by
  rintro rfl
  rw [h1] at h2; injection h2 with h2; injection h2 with _ h2 _; exact h h2

set_option maxRecDepth 100000 in
set_option maxHeartbeats 4000000 in
theorem visit_any (base xr xa xs sb pb eb rd n : Nat) (kd : Nat → Bool) (vb : Nat → Nat) (M : Nat → List B.V) (m : Nat → Bool) (st : List Nat) (v : B.V) (w : World) (hM : Mrk w base xr xa xs sb rd n vb M m st) (hS : Str w sb pb eb n kd vb M) (hn : n ≤ 200) (hst : st.length ≤ 200) (hv : B.Vok kd n v) :
    Calls Tryz.prog 214 #[vA v, P0 xr, P0 xa, P0 xs] w fun e w' => e = .returned (.tuple #[]) ∧ Below base w w' ∧ Mrk w' base xr xa xs sb rd n vb M (B.seen m st v).1 (B.seen m st v).2 := by
  have KM := hid hM
  have KS := hid hS
  have hb := hM.2.2.2.2.2.2.2.1
  obtain ⟨v1, v2⟩ := v
  by_cases h0 : v1 = 0
  · subst h0
    have hse : B.seen m st (0, v2) = (m, st) := by unfold B.seen; rw [if_neg (by simp)]
    rw [hse]
    clear hse hM hS hv
    go_enter Tryz.func214, Tryz.ntmps214
    go_wp2_with fail
    go_end0
    exact ⟨rfl, (Below.refl _ _).alloc hb _, KM.out.kept (World.grownBy_alloc _ _ _)⟩
  · obtain ⟨k, hk⟩ : ∃ k, v1 = k + 1 := ⟨v1 - 1, by omega⟩
    subst hk
    obtain ⟨hv1, hv2, hv3, hv4⟩ : 1 ≤ k + 1 ∧ k + 1 ≤ n ∧ kd (k + 1) = true ∧ v2 = 0 := by
      rcases hv with hv | hv
      · exact absurd hv h0
      · exact hv
    have hkn : k < n := by omega
    have c1 : w.cell? ⟨xr, 0, none⟩ = some (.slice (some ⟨rd, 0, none⟩) n n) := by simp [World.cell?, hM.2.1]
    have lr := heap_lt hM.2.1
    obtain ⟨c2, z2⟩ := hM.2.2.1.cells k hkn
    have ld := hM.2.2.1.lt
    have hki : (k : Int) < (n : Int) := by omega
    have hwr : IntKind.i64.wrap (k : Int) = (k : Int) := by simp [IntKind.wrap, IntKind.bits, IntKind.signed]; omega
    have hsub : (k : Int) + 1 - 1 = (k : Int) := by omega
    have hpos : (0 : Int) < (k : Int) + 1 := by omega
    cases hmk : m (k + 1)
    · have hse : B.seen m st (k + 1, v2) = (B.mark m (k + 1), st ++ [k + 1]) := by unfold B.seen; rw [if_pos ⟨by simp, hmk⟩]
      rw [hse]
      clear hse
      rw [hmk] at c2
      have HK := hid (And.intro hv2 hv3)
      have HV4 := hid hv4
      clear hM hS hv hv1 hv2 hv3 hv4 h0 hmk
      have lr' : xr < w.heap.size + 1 := by omega
      have ld' : rd < w.heap.size + 1 := by omega
      go_enter Tryz.func214, Tryz.ntmps214
      go_wp2_with fail
      generalize hW : (w.setCell ⟨rd, k, none⟩ (.bool true)).alloc (.cells #[.int .i64 ((k : Int) + 1), .int .i64 v2] 148) = w2
      obtain ⟨h1, h2, h3, h4, h5, h6, h7, h8, ad, cap, h9, h10⟩ := KM.out
      obtain ⟨curD, hD, _⟩ := id h3
      have hz2 : w2.heap.size = w.heap.size + 1 := by rw [← hW]; simp [World.setCell]
      have hbk : ∀ x, x < w.heap.size → x ≠ rd → w2.heap[x]? = w.heap[x]? := by
        intro x hx hn
        rw [← hW, Below.heap_alloc _ _ _ (by simp [World.setCell]; omega), Below.heap_setCell _ _ _ _ hn]
      have x1 := (hbk xs (heap_lt h1) (cells_ne h1 hD (by decide))).trans h1
      have x2 := (hbk xr (heap_lt h2) (cells_ne h2 hD (by decide))).trans h2
      have x9 := (hbk xa (heap_lt h9) (cells_ne h9 hD (by decide))).trans h9
      have x10 : w2.ownsRow base 278 3 (.slice ad st.length cap) st.length (stL vb M st) := own_of h10 (fun x h => by
        obtain ⟨_, hl, cur, hc⟩ := own_ty h10 x h
        exact hbk x hl (cells_ne hc hD (by decide)))
      have x3 : Full w2 rd 4 n n (fun j => .bool (B.mark m (k + 1) (j + 1))) := by
        have : Full w2 rd 4 n n (upd (fun j => .bool (m (j + 1))) k (.bool true)) := by
          rw [← hW]; exact (h3.upd k _).block (Below.heap_alloc _ _ _ (by simp [World.setCell]; omega))
        refine this.congr (fun j _ => ?_)
        by_cases e : j = k
        · subst e; rw [upd_at, B.mark_at]
        · rw [upd_off _ _ _ _ e, B.mark_off _ _ _ (by omega)]
      have x0 : w2.heap[w.heap.size]? = some (.cells #[.int .i64 ((k : Int) + 1), .int .i64 v2] 148 (0, 0)) := by
        have hz : (w.setCell ⟨rd, k, none⟩ (.bool true)).heap.size = w.heap.size := by simp [World.setCell]
        rw [← hW, ← hz]; exact heap_alloc_new _ _
      have KB2 : Hid (Below base w w2) := by show Below _ _ _; rw [← hW]; exact ((Below.refl _ _).setCell (by exact h7) _).alloc (by simp [World.setCell]; omega) _
      have HS2 : Hid (Str w2 sb pb eb n kd vb M) := by
        obtain ⟨s1, s2, s3, s4⟩ := KS.out
        obtain ⟨curP, hP, _⟩ := id s2
        refine ⟨(hbk sb (heap_lt s1) (cells_ne s1 hD (by decide))).trans s1, s2.block (hbk pb s2.lt (cells_ne hP hD (by decide))), fun p a b c => ?_, s4⟩
        obtain ⟨curV, hV, hV2⟩ := s3 p a b c
        exact ⟨curV, (hbk _ (heap_lt hV) (cells_ne hV hD (by decide))).trans hV, hV2⟩
      have a1 : w2.cell? ⟨xs, 0, none⟩ = some (P0 sb) := by simp [World.cell?, x1]
      have a9 : w2.cell? ⟨xa, 0, none⟩ = some (.slice ad st.length cap) := by simp [World.cell?, x9]
      have b0 : w2.cell? ⟨w.heap.size, 0, none⟩ = some (.int .i64 ((k : Int) + 1)) := by simp [World.cell?, x0]
      have b1 : w2.cell? ⟨w.heap.size, 1, none⟩ = some (.int .i64 v2) := by simp [World.cell?, x0]
      have ls := heap_lt x1
      have la := heap_lt x9
      have lb : w.heap.size < w2.heap.size := by omega
      have HX := hid (And.intro x1 (And.intro x2 (And.intro x3 (And.intro x9 x10))))
      have HB := hid (And.intro h4 (And.intro h5 (And.intro h6 (And.intro h7 h8))))
      have ha := fun w' (hS : Str w' sb pb eb n kd vb M) => at_some sb pb eb n k v2 kd vb M w' hS hkn hn
      have e0 : kdV (kd (k + 1)) = .int .u8 1 := by rw [HK.out.2]; rfl
      have e2 : slV (kd (k + 1)) (vb (k + 1)) (M (k + 1)).length = .slice (some ⟨vb (k + 1), 0, none⟩) (M (k + 1)).length (M (k + 1)).length := by rw [HK.out.2]; rfl
      rw [e0, e2] at ha
      have hL : stL vb M (st ++ [k + 1]) = stL vb M st ++ [.int .u8 1, .int .i64 0, .slice (some ⟨vb (k + 1), 0, none⟩) (M (k + 1)).length (M (k + 1)).length] := by rw [stL_app]; rfl
      generalize (M (k + 1)).length = ln at *
      generalize vb (k + 1) = vg at *
      have HA := hid ha
      have HL := hid hL
      clear ha e0 e2 hL x1 x2 x3 x9 x10 x0 hW hbk h1 h2 h3 h4 h5 h6 h7 h8 h9 h10 hD c1 c2 z2 lr ld lr' ld' hki hwr hsub hpos KM
      obtain ⟨i0, hi, hz0, hz1, hzb⟩ := info_parts Tryz.info278
      go_region_law (first | (refine step_append_own rfl (.tmp 22) (.tmp 26) 202 rfl base 278 i0 _ 3 40 Tryz.underlying202 hi hz0 hz1 hzb rfl (by decide) (.slice ad st.length cap) st.length (stL vb M st) (by first | rfl | simp [Act.eval, Act.put]) (own_of (own_of HX.out.2.2.2.2 (fun x h => HG3.out.block x (own_ty HX.out.2.2.2.2 x h).2.1 (by intro e; cases e))) (fun x h => Below.heap_alloc _ _ _ (Nat.lt_of_lt_of_le (own_ty HX.out.2.2.2.2 x h).2.1 HG3.out.size))) ⟨w3.heap.size, 0, none⟩ 1 1 [.int .u8 1, .int .i64 0, .slice (some ⟨vg, 0, none⟩) ln ln] (by first | rfl | simp [Act.eval, Act.put]) rfl (by intro j u hj; match j, hj with | 0, hj => (simp at hj; subst hj; simp [Addr.add, go_sem]) | 1, hj => (simp at hj; subst hj; simp [Addr.add, go_sem]) | 2, hj => (simp at hj; subst hj; simp [Addr.add, go_sem])) (by simp [Value.oneCell']) (by unfold maxLen; omega) (by omega) (by simp; omega) ?_; intro v' w6 ho hg; obtain ⟨g, c, rfl⟩ := row_form ho (by omega); have HO6 := hid ho; have hz6 := hg.size; have HG6 : Hid (∀ x, x < w3.heap.size → (Value.slice ad st.length cap).ownBlock ≠ some x → w6.heap[x]? = w3.heap[x]?) := (fun x hx hne => (hg.block x (by simp; omega) (fun e => hne e.symm)).trans (Below.heap_alloc _ _ _ hx)); have KB6 : Hid (Below base w2 w6) := ⟨hg.os.trans HG3.out.os, hg.tape.trans HG3.out.tape, hg.output.trans HG3.out.output, (by simp at hz6; omega), (fun x hx => (HG6.out x (by omega) (fun e => by have := (own_ty HX.out.2.2.2.2 x e).1; omega)).trans (HG3.out.block x (by omega) (by intro e; cases e)))⟩; have x9 := (HG6.out xa (by omega) (fun e => by (obtain ⟨_, _, cur, hc⟩ := own_ty HX.out.2.2.2.2 xa e; exact cells_ne hc HX.out.2.2.2.1 (by decide) rfl))).trans (grown_heap HG3.out HX.out.2.2.2.1 (by intro e; cases e)); have y9 : w6.cell? ⟨xa, 0, none⟩ = some (.slice ad st.length cap) := (by simp [World.cell?, x9]); have z9 : w6.frozen? ⟨xa, 0, none⟩ = false := (by simp [World.frozen?, x9]); have la6 := heap_lt x9; have X9 := hid x9; clear ho hg x9) | (go_simp; go_at_call 184; refine (HA.out w2.drew (HS2.out.kept (grown_drew (grown_refl _ _)))).mono ?_; rintro e w3 ⟨rfl, hg3⟩; have HG3 : Hid (w2.grownBy w3 none) := ⟨hg3.os, hg3.tape, hg3.output, hg3.size, hg3.block⟩; have hz3 := hg3.size; have hz3' : w2.heap.size ≤ w3.heap.size := hz3; obtain ⟨a9', _⟩ := grown_cell HG3.out (a := ⟨xa, 0, none⟩) la; rw [a9] at a9'; have la3 : xa < w3.heap.size := (by omega); clear hg3; simp only []))
      all_goals
        go_wp2_with fail
        go_end0
        have hk6 : ∀ (x : Nat) (cur : Array Value) (T : TypeId), w2.heap[x]? = some (.cells cur T (0, 0)) → T ≠ 278 → x ≠ xa → (w6.setCell ⟨xa, 0, none⟩ (.slice (some ⟨g, 0, none⟩) (st.length + 1) c)).heap[x]? = w2.heap[x]? := by
          intro x cur T hx hT hxa
          rw [Below.heap_setCell _ _ _ _ hxa, HG6.out x (Nat.lt_of_lt_of_le (heap_lt hx) HG3.out.size) (fun e => by (obtain ⟨_, _, cur', hc⟩ := own_ty HX.out.2.2.2.2 x e; exact cells_ne hx hc hT rfl))]
          exact HG3.out.block x (heap_lt hx) (by intro e; cases e)
        obtain ⟨x1, x2, x3, x9, x10⟩ := HX.out
        obtain ⟨curD, hD, hD2⟩ := x3
        refine ⟨rfl, (KB2.out.trans KB6.out).setCell HB.out.2.2.1 _, ?_⟩
        refine ⟨(hk6 xs _ _ x1 (by decide) (cells_ne x1 x9 (by decide))).trans x1, (hk6 xr _ _ x2 (by decide) (cells_ne x2 x9 (by decide))).trans x2, ⟨curD, (hk6 rd _ _ hD (by decide) (cells_ne hD x9 (by decide))).trans hD, hD2⟩, HB.out.1, HB.out.2.1, HB.out.2.2.1, HB.out.2.2.2.1, by have := KB6.out.size; simp [World.setCell]; omega, some ⟨g, 0, none⟩, c, ?_, ?_⟩
        · rw [show (st ++ [k + 1]).length = st.length + 1 by simp]
          simp [World.setCell, Array.getElem?_modify, X9.out]
        · rw [show (st ++ [k + 1]).length = st.length + 1 by simp, HL.out]
          refine own_of HO6.out (fun x h => Below.heap_setCell _ _ _ _ ?_)
          obtain ⟨_, _, cur', hc⟩ := own_ty HO6.out x h
          exact cells_ne hc X9.out (by decide)
    · have hse : B.seen m st (k + 1, v2) = (m, st) := by unfold B.seen; rw [if_neg (by simp [hmk])]
      rw [hse]
      rw [hmk] at c2
      clear hse hM hS hv hv1 hv2 hv3 hv4 h0 hmk
      go_enter Tryz.func214, Tryz.ntmps214
      go_wp2_with fail
      go_end0
      exact ⟨rfl, (Below.refl _ _).alloc hb _, KM.out.kept (World.grownBy_alloc _ _ _)⟩
end Go.Proofs.YtbmjlbcaplgfmaaGreatDoor

/-
  The collector goes through what can be reached: the roots, and what is reached from them.
-/
namespace Go.Proofs.YtbmjlbcaplgfmaaGreatDoor
open Go.RowKit

/-- What the collector reads: it lies under a bound, behind which the collector writes. -/
def Rts (w : World) (base eb lb cl tb kb ck fb cb L nx rb nr : Nat) (back : Value) (sb pb n : Nat) (kd : Nat → Bool) (vb : Nat → Nat) (s : B.St) : Prop :=
  w.cell? ⟨eb, 28, none⟩ = some (.slice (some ⟨lb, 0, none⟩) 1 cl) ∧ w.cell? ⟨lb, 0, none⟩ = some (P0 tb) ∧ w.cell? ⟨eb, 30, none⟩ = some (.slice none 0 0) ∧
  w.cell? ⟨tb, 1, none⟩ = some (.slice (some ⟨kb, 0, none⟩) 1 ck) ∧ w.cell? ⟨kb, 0, none⟩ = some (P0 fb) ∧ Fr w fb cb L nx rb nr back s.2.1 ∧ Str w sb pb eb n kd vb s.2.2 ∧
  (eb < base ∧ lb < base ∧ tb < base ∧ kb < base ∧ fb < base ∧ rb < base ∧ sb < base ∧ pb < base ∧ ∀ p, 1 ≤ p → p ≤ n → kd p = true → vb p < base) ∧ B.Held kd nr n s ∧ n ≤ 200 ∧ nr ≤ 8
theorem Rts.below {w w' : World} {base eb lb cl tb kb ck fb cb L nx rb nr : Nat} {back : Value} {sb pb n : Nat} {kd : Nat → Bool} {vb : Nat → Nat} {s : B.St} (h : Rts w base eb lb cl tb kb ck fb cb L nx rb nr back sb pb n kd vb s) (hb : Below base w w') : Rts w' base eb lb cl tb kb ck fb cb L nx rb nr back sb pb n kd vb s := by
  obtain ⟨h1, h2, h3, h4, h5, h6, h7, ⟨l1, l2, l3, l4, l5, l6, l7, l8, l9⟩, h8⟩ := h
  exact ⟨(hb.cell (p := ⟨eb, 28, none⟩) l1).trans h1, (hb.cell (p := ⟨lb, 0, none⟩) l2).trans h2, (hb.cell (p := ⟨eb, 30, none⟩) l1).trans h3, (hb.cell (p := ⟨tb, 1, none⟩) l3).trans h4, (hb.cell (p := ⟨kb, 0, none⟩) l4).trans h5,
    ⟨(hb.block _ l5).trans h6.1, h6.2.1.block (hb.block _ l6), h6.2.2⟩, h7.below hb l7 l8 l9, ⟨l1, l2, l3, l4, l5, l6, l7, l8, l9⟩, h8⟩
theorem Mrk.base {w : World} {base xr xa xs sb rd n : Nat} {vb : Nat → Nat} {M : Nat → List B.V} {m : Nat → Bool} {st : List Nat} (h : Mrk w base xr xa xs sb rd n vb M m st) : base ≤ w.heap.size := h.2.2.2.2.2.2.2.1
theorem marks_len {nr n : Nat} {s : B.St} {j : Nat} {rest : List B.V} {m : Nat → Bool} {st : List Nat} (h : B.Marks nr n s j rest m st) : st.length ≤ n := by have := h.2.2.2.2; omega

set_option maxRecDepth 100000 in
set_option maxHeartbeats 2000000 in
theorem tvisit_any (base eb lb cl tb kb ck fb cb L nx rb nr : Nat) (back : Value) (sb pb n xr xa xs rd : Nat) (kd : Nat → Bool) (vb : Nat → Nat) (s : B.St) (m : Nat → Bool) (st : List Nat) (w : World) (hR : Rts w base eb lb cl tb kb ck fb cb L nx rb nr back sb pb n kd vb s) (hM : Mrk w base xr xa xs sb rd n vb s.2.2 m st) (hm : B.Marks nr n s 0 [] m st) :
    Calls Tryz.prog 111 #[P0 tb, Fv 214 #[P0 xr, P0 xa, P0 xs]] w fun e w' => e = .returned (.tuple #[]) ∧ Below base w w' ∧ ∃ m' st', Mrk w' base xr xa xs sb rd n vb s.2.2 m' st' ∧ B.Marks nr n s nr [] m' st' := by
  have KR := hid hR
  have KM := hid hM
  have KK := hid hm
  obtain ⟨_, _, _, c4, c5, _, _, _, hH, hn, hnr⟩ := hR
  have HH := hid hH
  clear hM hm hH
  go_enter Tryz.func111, Tryz.ntmps111
  go_wp2_with fail
  go_loopw [13] (fun i wr => ∃ k : Nat, k ≤ 1 ∧ i = .int .i64 k ∧ Hid (Below base w wr) ∧ Hid (∃ m' st', Mrk wr base xr xa xs sb rd n vb s.2.2 m' st' ∧ B.Marks nr n s (k * nr) [] m' st')) (fun i _ => 1 - (intOf i).toNat)
  case atStart => exact ⟨0, by omega, rfl, Below.refl _ _, m, st, KM.out, by rw [Nat.zero_mul]; exact KK.out⟩
  case round =>
    obtain ⟨k, hk, rfl, hB, hX⟩ := hrel
    by_cases hk0 : k = 0
    · subst hk0
      have hR2 := KR.out.below hB.out
      obtain ⟨_, _, _, d4, d5, d6, _, _⟩ := id hR2
      obtain ⟨_, _, f2, _, _⟩ := frm_cells d6.1
      have KR2 := hid hR2
      have KB := hid hB.out
      clear hR2 d6 c4 c5
      go_wp2_with fail
      go_loopw [22] (fun i wr' => ∃ j : Nat, j ≤ nr ∧ i = .int .i64 j ∧ Hid (Below base w wr') ∧ Hid (∃ m' st', Mrk wr' base xr xa xs sb rd n vb s.2.2 m' st' ∧ B.Marks nr n s j [] m' st')) (fun i _ => nr - (intOf i).toNat)
      case atStart => exact ⟨0, by omega, rfl, KB, by have := hX.out; rw [Nat.zero_mul] at this; exact this⟩
      case round =>
        obtain ⟨j, hj, rfl, hB', hX'⟩ := hrel
        by_cases hlt : j < nr
        · have hR3 := KR.out.below hB'.out
          obtain ⟨_, _, _, _, _, d6, d7, _, _⟩ := id hR3
          have r0 := d6.2.1.cell (j * 2) (by omega)
          have r1 := d6.2.1.cell (j * 2 + 1) (by omega)
          rw [regP_0] at r0
          rw [regP_1] at r1
          have lr := d6.2.1.lt
          have HS := hid d7
          clear hR3 d6 d7
          have hji : (j : Int) < (nr : Int) := by omega
          obtain ⟨m', st', hM', hm'⟩ := hX'.out
          have HM := hid hM'
          have Hm := hid hm'
          clear hM' hm'
          go_wp2_with fail
          refine (visit_any base xr xa xs sb pb eb rd n kd vb s.2.2 m' st' (s.2.1 j) _ (HM.out.kept (World.grownBy_alloc _ _ _)) (HS.out.kept (World.grownBy_alloc _ _ _)) hn (by have := marks_len Hm.out; omega) (HH.out.1 j hlt)).mono ?_
          rintro e w5 ⟨rfl, hB5, hM5⟩
          have KB5 : Hid (Below base w w5) := (hB'.out.alloc HM.out.base _).trans hB5
          have KM5 := hid hM5
          clear hB5 hM5 r0 r1
          go_wp2_with fail
          go_roundw
          case rel =>
            refine ⟨_, _, _, _, _, _, _, _, _, ⟨j + 1, by omega, ?_, KB5, _, _, KM5.out, B.marks_root HH.out hlt Hm.out⟩, rfl⟩
            go_num
          case measure => simp [intOf]; omega
        · obtain rfl : j = nr := by omega
          have hge : decide ((j : Int) < (j : Int)) = false := by simp
          go_wp2_with fail
          go_roundw
          case rel => exact ⟨1, by omega, by go_num, hB', by rw [Nat.one_mul]; exact hX'.out⟩
          case measure => simp [intOf]
    · obtain rfl : k = 1 := by omega
      go_wp2_with fail
      go_end0
      exact ⟨rfl, hB.out, by have := hX.out; rw [Nat.one_mul] at this; exact this⟩

set_option maxRecDepth 100000 in
set_option maxHeartbeats 2000000 in
theorem roots_any (base eb lb cl tb kb ck fb cb L nx rb nr : Nat) (back : Value) (sb pb n xr xa xs rd : Nat) (kd : Nat → Bool) (vb : Nat → Nat) (s : B.St) (m : Nat → Bool) (st : List Nat) (w : World) (hR : Rts w base eb lb cl tb kb ck fb cb L nx rb nr back sb pb n kd vb s) (hM : Mrk w base xr xa xs sb rd n vb s.2.2 m st) (hm : B.Marks nr n s 0 [] m st) :
    Calls Tryz.prog 54 #[P0 eb, Fv 214 #[P0 xr, P0 xa, P0 xs]] w fun e w' => e = .returned (.tuple #[]) ∧ Below base w w' ∧ ∃ m' st', Mrk w' base xr xa xs sb rd n vb s.2.2 m' st' ∧ B.Marks nr n s nr [] m' st' := by
  have KR := hid hR
  have HT := hid (tvisit_any base eb lb cl tb kb ck fb cb L nx rb nr back sb pb n xr xa xs rd kd vb s m st w hR hM hm)
  have KM := hid hM
  have KK := hid hm
  obtain ⟨c1, c2, _, _⟩ := hR
  clear hM hm
  go_enter Tryz.func54, Tryz.ntmps54
  go_wp2_with fail
  go_loopw [13] (fun i wr => ∃ k : Nat, k ≤ 1 ∧ i = .int .i64 k ∧ Hid (k = 0 → wr = w) ∧ Hid (Below base w wr) ∧ Hid (k = 1 → ∃ m' st', Mrk wr base xr xa xs sb rd n vb s.2.2 m' st' ∧ B.Marks nr n s nr [] m' st')) (fun i _ => 1 - (intOf i).toNat)
  case atStart => exact ⟨0, by omega, rfl, fun _ => rfl, Below.refl _ _, fun h => (by omega)⟩
  case round =>
    obtain ⟨k, hk, rfl, hW, hB, hX⟩ := hrel
    by_cases hk0 : k = 0
    · subst hk0
      have hw := hW.out rfl
      subst hw
      go_wp2_with fail
      refine HT.out.mono ?_
      rintro e w5 ⟨rfl, hB5, hM5⟩
      have KB5 := hid hB5
      have KM5 := hid hM5
      clear hB5 hM5
      go_wp2_with fail
      go_roundw
      case rel => exact ⟨1, by omega, by go_num, fun h => (by omega), KB5, fun _ => KM5.out⟩
      case measure => simp [intOf]
    · obtain rfl : k = 1 := by omega
      obtain ⟨_, _, d3, _⟩ := KR.out.below hB.out
      clear c1 c2
      go_wp2_with fail
      go_loopw [26] (fun i wr' => i = .int .i64 0 ∧ wr' = wr) (fun _ _ => 0)
      case atStart => exact ⟨rfl, rfl⟩
      case round =>
        obtain ⟨rfl, rfl⟩ := hrel
        go_wp2_with fail
        go_end0
        exact ⟨rfl, hB.out, hX.out (by first | rfl | trivial)⟩
end Go.Proofs.YtbmjlbcaplgfmaaGreatDoor

/-
  The collector goes through what can be reached: to the end.
-/
namespace Go.Proofs.YtbmjlbcaplgfmaaGreatDoor
open Go.RowKit

theorem Tryz.info4 : (Tryz.prog.info? 4).map (fun i => (i.zero, i.size, i.bytes)) = some (some (.bool false), 1, 1) := by kernel_rfl

/-- How much is left to do, as it can be read off the memory. -/
def lenAt (w : World) (xa : Nat) : Nat := match w.cell? ⟨xa, 0, none⟩ with | some (.slice _ n _) => n | _ => 0
def falses (w : World) (rd : Nat) : Nat → Nat
  | 0 => 0
  | k + 1 => falses w rd k + (match w.cell? ⟨rd, k, none⟩ with | some (.bool true) => 0 | _ => 1)
def todo (w : World) (xa rd n : Nat) : Nat := lenAt w xa + falses w rd n
theorem falses_is {w : World} {rd n : Nat} {m : Nat → Bool} (h : Full w rd 4 n n (fun j => .bool (m (j + 1)))) : ∀ k, k ≤ n → falses w rd k = B.cnt m k
  | 0, _ => rfl
  | k + 1, hk => by
    rw [falses, B.cnt, falses_is h k (by omega), h.cell k (by omega)]
    cases m (k + 1) <;> rfl
theorem todo_is {w : World} {base xr xa xs sb rd n : Nat} {vb : Nat → Nat} {M : Nat → List B.V} {m : Nat → Bool} {st : List Nat} (h : Mrk w base xr xa xs sb rd n vb M m st) : todo w xa rd n = st.length + B.cnt m n := by
  obtain ⟨_, _, h3, _, _, _, _, _, ad, cap, h9, _⟩ := h
  unfold todo
  rw [falses_is h3 n (Nat.le_refl _)]
  have : w.cell? ⟨xa, 0, none⟩ = some (.slice ad st.length cap) := by simp [World.cell?, h9]
  unfold lenAt
  rw [this]

/-- A row without its last element. -/
theorem own_pop {w : World} {base g n cap : Nat} {L t : List Value} (h : w.ownsRow base 278 3 (.slice (some ⟨g, 0, none⟩) (n + 1) cap) (n + 1) (L ++ t)) (hL : L.length = n * 3) : w.ownsRow base 278 3 (.slice (some ⟨g, 0, none⟩) n cap) n L := by
  refine ⟨hL, ?_⟩
  rcases h.2 with ⟨h, _⟩ | ⟨g', cap', cur, h1, h2, h3, h4, h5, h6, h7⟩
  · cases h
  · cases h1
    refine Or.inr ⟨g, cap, cur, rfl, h2, h3, by omega, h5, h6, ?_⟩
    have := congrArg (fun l => l.take (n * 3)) h7
    simp only [List.take_take] at this
    rw [show min (n * 3) ((n + 1) * 3) = n * 3 by omega] at this
    rw [this, ← hL]
    simp
/-- What lies in the last element. -/
theorem own_last {w : World} {base g n cap : Nat} {L : List Value} {a b c : Value} (h : w.ownsRow base 278 3 (.slice (some ⟨g, 0, none⟩) (n + 1) cap) (n + 1) (L ++ [a, b, c])) (hL : L.length = n * 3) : w.cell? ⟨g, n * 3 + 2, none⟩ = some c := by
  rcases h.2 with ⟨h, _⟩ | ⟨g', cap', cur, h1, h2, h3, h4, h5, h6, h7⟩
  · cases h
  · cases h1
    have hc : cur[n * 3 + 2]? = some c := by
      have e1 : (cur.toList.take ((n + 1) * 3))[n * 3 + 2]? = some c := by
        rw [h7, List.getElem?_append_right (by omega), hL, show n * 3 + 2 - n * 3 = 2 by omega]; rfl
      rw [List.getElem?_take] at e1
      split at e1
      · simpa using e1
      · cases e1
    simp [World.cell?, h3, hc]

set_option maxRecDepth 100000 in
set_option maxHeartbeats 4000000 in
theorem reached_any (eb lb cl tb kb ck fb cb L nx rb nr : Nat) (back : Value) (sb pb n : Nat) (kd : Nat → Bool) (vb : Nat → Nat) (s : B.St) (w : World) (hR : Rts w w.heap.size eb lb cl tb kb ck fb cb L nx rb nr back sb pb n kd vb s) :
    Calls Tryz.prog 211 #[P0 sb] w fun e w' => ∃ (rd : Nat) (m : Nat → Bool), e = .returned (.slice (some ⟨rd, 0, none⟩) n n) ∧ Below w.heap.size w w' ∧ w.heap.size ≤ rd ∧ Full w' rd 4 n n (fun j => .bool (m (j + 1))) ∧ ∀ p, m p = true ↔ B.Reach nr s p := by
  have KR := hid hR
  obtain ⟨_, _, _, _, _, _, hS, hl, hH, hn, hnr⟩ := hR
  have q0 : w.cell? ⟨sb, 0, none⟩ = some (.slice (some ⟨pb, 0, none⟩) n n) := by simp [World.cell?, hS.1]
  have q1 : w.cell? ⟨sb, 1, none⟩ = some (.func (.func 54) #[P0 eb] #[]) := by simp [World.cell?, hS.1]
  have ls : sb < w.heap.size := hl.2.2.2.2.2.2.1
  have HH := hid hH
  clear hS hl hH
  obtain ⟨i0, hi, hz0, hz1, hz2⟩ := info_parts Tryz.info4
  go_enter Tryz.func211, Tryz.ntmps211
  go_wp2_with (at_make; go_loud (refine wpList_make_full _ rfl _ _ 225 rfl (w.heap.size + 1) 4 i0 _ 1 Tryz.underlying225 hi hz0 hz1 _ _ _ _ n rfl rfl rfl rfl (by rw [hz2]; omega) (by unfold maxLen; omega) (by simp) ?_))
  intro w3 hown hg3
  have hz3 := hg3.size
  simp at hz3
  have hf3 : Full w3 (w.heap.size + 1) 4 n n (fun j => .bool ((fun _ => false : Nat → Bool) (j + 1))) := by
    rcases hown.2 with ⟨h, _⟩ | ⟨g', cap', cur, h1, h2, h3, h4, h5, h6, h7⟩
    · cases h
    · injection h1 with h1 _ hc
      injection h1 with h1
      injection h1 with h1 _ _
      have hg' : g' = w.heap.size + 1 := by simpa using h1.symm
      subst hg' hc
      refine ⟨cur, h3, by omega, fun j hj => ?_⟩
      have e1 := congrArg (fun l => l[j]?) h7
      rw [toList_madeCells_one] at e1
      simp only [List.getElem?_take, List.getElem?_replicate] at e1
      rw [if_pos (by omega), if_pos (by omega)] at e1
      simpa using e1
  have x3 := grown_heap hg3 (show (w.alloc (.cells #[P0 sb] 134)).heap[w.heap.size]? = _ from heap_alloc_new w _) (by intro e; cases e)
  have KB3 : Hid (Below w.heap.size w w3) := by
    have h0 : Below w.heap.size w (w.alloc (.cells #[P0 sb] 134)) := (Below.refl _ _).alloc (Nat.le_refl _) _
    exact h0.trans ((below_none hg3).mono (by simp))
  have b0 : w3.cell? ⟨w.heap.size, 0, none⟩ = some (P0 sb) := by simp [World.cell?, x3]
  have lw3 : w.heap.size < w3.heap.size := by omega
  have s0 := KB3.out.cell (p := ⟨sb, 0, none⟩) ls
  have s1 := KB3.out.cell (p := ⟨sb, 1, none⟩) ls
  rw [q0] at s0
  rw [q1] at s1
  have ls3 : sb < w3.heap.size := by omega
  have HF3 := hid hf3
  have HX3 := hid x3
  clear hown hg3 hf3 x3 q0 q1
  go_wp2_with fail
  generalize hW : (w3.alloc (.cells #[.slice (some ⟨w.heap.size + 1, 0, none⟩) n n] 225)).alloc (.cells #[.slice none 0 0] 202) = w4
  have hz4 : w4.heap.size = w3.heap.size + 2 := by rw [← hW]; simp
  have KB4 : Hid (Below w.heap.size w w4) := by show Below _ _ _; rw [← hW]; exact (KB3.out.alloc (by omega) _).alloc (by simp; omega) _
  have hbk : ∀ k, k < w3.heap.size → w4.heap[k]? = w3.heap[k]? := fun k hk => by rw [← hW, Below.heap_alloc _ _ _ (by simp; omega), Below.heap_alloc _ _ _ hk]
  have KM4 : Hid (Mrk w4 w.heap.size w3.heap.size (w3.heap.size + 1) w.heap.size sb (w.heap.size + 1) n vb s.2.2 (fun _ => false) []) := by
    refine ⟨(hbk _ lw3).trans HX3.out, ?_, HF3.out.block (hbk _ HF3.out.lt), Nat.le_refl _, by omega, by omega, by omega, by omega, none, 0, ?_, World.ownsRow_nil _ _ _ _⟩
    · rw [← hW, Below.heap_alloc _ _ _ (by simp)]; exact heap_alloc_new _ _
    · rw [← hW]
      have := heap_alloc_new (w3.alloc (.cells #[.slice (some ⟨w.heap.size + 1, 0, none⟩) n n] 225)) (.cells #[.slice none 0 0] 202)
      simpa using this
  generalize hxr : w3.heap.size = xr at *
  generalize hbs : w.heap.size = base at *
  have HL := hid (And.intro hxr (And.intro hbs hz4))
  clear hW hbk hz4 hxr
  refine (roots_any base eb lb cl tb kb ck fb cb L nx rb nr back sb pb n xr (xr + 1) base (base + 1) kd vb s (fun _ => false) [] w4 (KR.out.below KB4.out) KM4.out (B.marks_none nr n s)).mono ?_
  rintro e w5 ⟨rfl, hB5, m5, st5, hM5, hm5⟩
  have KB5 := hid (KB4.out.trans hB5)
  have KM5 := hid hM5
  have Km5 := hid hm5
  clear hB5 hM5 hm5 b0 s0 s1 HF3 HX3 KB3 KB4 KM4
  go_wp2_with fail
  go_loopw [] (fun wr => Hid (Below base w wr) ∧ Hid (∃ (m : Nat → Bool) (st : List Nat), Mrk wr base xr (xr + 1) base sb (base + 1) n vb s.2.2 m st ∧ B.Marks nr n s nr [] m st)) (fun wr => todo wr (xr + 1) (base + 1) n)
  case atStart => exact ⟨KB5, m5, st5, KM5.out, Km5.out⟩
  case round =>
    obtain ⟨hB, hX⟩ := hrel
    obtain ⟨m, st, hM, hm⟩ := hX.out
    have hT := todo_is hM
    obtain ⟨g1, g2, g3, _, _, _, _, g8, ad, cap, g9, g10⟩ := id hM
    have a9 : wr.cell? ⟨xr + 1, 0, none⟩ = some (.slice ad st.length cap) := by simp [World.cell?, g9]
    have z9 : wr.frozen? ⟨xr + 1, 0, none⟩ = false := by simp [World.frozen?, g9]
    have l9 := heap_lt g9
    rcases List.eq_nil_or_concat st with rfl | ⟨st0, p, rfl⟩
    · have a1 : wr.cell? ⟨xr, 0, none⟩ = some (.slice (some ⟨base + 1, 0, none⟩) n n) := by simp [World.cell?, g2]
      have l1 := heap_lt g2
      have HE := hid (And.intro g3 hm)
      clear g1 g2 g3 g8 g9 g10 hM hm hT
      simp only [List.length_nil] at a9
      go_wp2_with fail
      go_ret
      exact ⟨base + 1, m, rfl, by rw [HL.out.2.1]; exact hB.out, by rw [HL.out.2.1]; omega, HE.out.1, B.marks_end HE.out.2⟩
    · simp only [List.concat_eq_append] at *
      obtain ⟨hm0, hlt0, hrp⟩ := B.marks_pop hm
      obtain ⟨hkd, hp1, hp2⟩ := B.reach_kd HH.out hrp
      have hlen : (st0 ++ [p]).length = st0.length + 1 := by simp
      rw [hlen] at a9 g9 g10 hT
      obtain ⟨g, cap', hv⟩ := row_form g10 (by omega)
      injection hv with hv1 _ hv2
      subst hv1 hv2
      rw [stL_app] at g10
      have v2 : wr.cell? ⟨g, st0.length * 3 + 2, none⟩ = some (.slice (some ⟨vb p, 0, none⟩) (s.2.2 p).length (s.2.2 p).length) := own_last g10 (stL_len _ _ _)
      have o2 := own_pop g10 (stL_len _ _ _)
      obtain ⟨hgb, lg, curG, hG⟩ := own_ty o2 g rfl
      have hcap : st0.length + 1 ≤ cap := by
        rcases g10.2 with ⟨h, _⟩ | ⟨g', c', cur, h1, _, _, h4, _⟩
        · cases h
        · cases h1; exact h4
      have hRw := KR.out.below hB.out
      have hF := hRw.2.2.2.2.2.2.1.2.2.1 p hp1 hp2 hkd
      have hk200 : st0.length ≤ 200 := by omega
      have KMx : Hid (Mrk (wr.setCell ⟨xr + 1, 0, none⟩ (.slice (some ⟨g, 0, none⟩) st0.length cap)) base xr (xr + 1) base sb (base + 1) n vb s.2.2 m st0) := by
        obtain ⟨curD, hD, hD2⟩ := g3
        refine ⟨(Below.heap_setCell _ _ _ _ (cells_ne g1 g9 (by decide))).trans g1, (Below.heap_setCell _ _ _ _ (cells_ne g2 g9 (by decide))).trans g2, ⟨curD, (Below.heap_setCell _ _ _ _ (cells_ne hD g9 (by decide))).trans hD, hD2⟩, Nat.le_refl _, by omega, by omega, by omega, by simp [World.setCell]; omega, some ⟨g, 0, none⟩, cap, ?_, ?_⟩
        · simp [World.setCell, Array.getElem?_modify, g9]
        · refine own_of o2 (fun x h => Below.heap_setCell _ _ _ _ ?_)
          obtain ⟨_, _, c', hc'⟩ := own_ty o2 x h
          exact cells_ne hc' g9 (by decide)
      have KBx : Hid (Below base w (wr.setCell ⟨xr + 1, 0, none⟩ (.slice (some ⟨g, 0, none⟩) st0.length cap))) := hB.out.setCell (by show base ≤ xr + 1; omega) _
      have hvne : vb p ≠ xr + 1 := by
        obtain ⟨curV, hV, _⟩ := hF
        exact cells_ne hV g9 (by decide)
      have Km0 := hid hm0
      have HP := hid (And.intro hrp (And.intro hkd (And.intro hp1 hp2)))
      have HT := hid (And.intro hT hlt0)
      clear g1 g2 g3 g8 g9 g10 hM hm hT hm0 hrp hkd hp1 hp2 hG hF hRw hlt0 o2 hlen hX
      have hwr : IntKind.i64.wrap (st0.length : Int) = (st0.length : Int) := by simp [IntKind.wrap, IntKind.bits, IntKind.signed]; omega
      have hsub : (st0.length : Int) + 1 - 1 = (st0.length : Int) := by omega
      generalize hkk : st0.length = k at *
      have hki : (k : Int) < (k : Int) + 1 := by omega
      have hkc : k ≤ cap := by omega
      have hpos : (0 : Int) < (k : Int) + 1 := by omega
      have HKK := hid hkk
      clear hkk
      go_wp2_with fail
      generalize hwx : wr.setCell ⟨xr + 1, 0, none⟩ (.slice (some ⟨g, 0, none⟩) k cap) = wx at *
      clear hwx a9 z9
      go_loopw [39] (fun i wy => ∃ j : Nat, j ≤ (s.2.2 p).length ∧ i = .int .i64 j ∧ Hid (Below base w wy) ∧ Hid (∃ (m' : Nat → Bool) (st' : List Nat), Mrk wy base xr (xr + 1) base sb (base + 1) n vb s.2.2 m' st' ∧ B.Marks nr n s nr ((s.2.2 p).drop j) m' st' ∧ st'.length + B.cnt m' n = k + B.cnt m n)) (fun i _ => (s.2.2 p).length - (intOf i).toNat)
      case atStart => exact ⟨0, by omega, rfl, KBx, m, st0, KMx.out, by simpa using Km0.out, by rw [HKK.out]⟩
      case round =>
        obtain ⟨j, hj, rfl, hB', hX'⟩ := hrel
        by_cases hlt : j < (s.2.2 p).length
        · have hR3 := KR.out.below hB'.out
          obtain ⟨_, _, _, _, _, _, d7, _, _⟩ := id hR3
          have hF := d7.2.2.1 p HP.out.2.2.1 HP.out.2.2.2 HP.out.2.1
          have r0 := hF.cell (j * 2) (by omega)
          have r1 := hF.cell (j * 2 + 1) (by omega)
          rw [regP_0] at r0
          rw [regP_1] at r1
          have lr := hF.lt
          have HS := hid d7
          have hl8 := d7.2.2.2.2 p HP.out.2.1
          have hmem : slots s.2.2 p j ∈ s.2.2 p := by
            show (s.2.2 p).getD j (0, 0) ∈ s.2.2 p
            rw [List.getD_eq_getElem?_getD, List.getElem?_eq_getElem hlt]
            exact List.getElem_mem hlt
          have hdrop : (s.2.2 p).drop j = slots s.2.2 p j :: (s.2.2 p).drop (j + 1) := by
            rw [List.drop_eq_getElem_cons hlt]
            congr 1
            show _ = (s.2.2 p).getD j (0, 0)
            rw [List.getD_eq_getElem?_getD, List.getElem?_eq_getElem hlt]; rfl
          clear hR3 d7 hF
          obtain ⟨m', st', hM', hm', hc'⟩ := hX'.out
          rw [hdrop] at hm'
          have hle : st'.length ≤ 200 := by have := marks_len hm'; omega
          generalize hvv : slots s.2.2 p j = vv at *
          have HM := hid hM'
          have Hm := hid hm'
          have HC := hid hc'
          have HMem := hid hmem
          have hvk := HH.out.2 p HP.out.2.1 vv hmem
          clear hM' hm' hc' hmem hdrop hvv
          have hji : (j : Int) < ((s.2.2 p).length : Int) := by omega
          generalize hll : (s.2.2 p).length = ln at *
          have HLL := hid hll
          clear hll
          go_wp2_with fail
          refine (visit_any base xr (xr + 1) base sb pb eb (base + 1) n kd vb s.2.2 m' st' vv _ (HM.out.kept (World.grownBy_alloc _ _ _)) (HS.out.kept (World.grownBy_alloc _ _ _)) hn hle hvk).mono ?_
          rintro e w6 ⟨rfl, hB6, hM6⟩
          have KB6 : Hid (Below base w w6) := (hB'.out.alloc HM.out.base _).trans hB6
          have KM6 := hid hM6
          clear hB6 hM6 r0 r1
          have HN := hid (B.marks_slot HH.out HP.out.1 HMem.out Hm.out)
          have HN2 := hid ((B.seen_sum (m := m') (st := st') (v := vv) (n := n) (fun h0 => hvk.elim (fun h => absurd h h0) (fun h => h.2.1))).trans HC.out)
          go_wp2_with fail
          go_roundw
          case rel => exact ⟨j + 1, by omega, by go_num, KB6, _, _, KM6.out, HN.out, HN2.out⟩
          case measure => simp [intOf]; omega
        · obtain ⟨m', st', hM', hm', hc'⟩ := hX'.out
          have hjl : j = (s.2.2 p).length := by omega
          rw [hjl, List.drop_length] at hm'
          have hTD := todo_is hM'
          have HTD := hid hTD
          have HM := hid hM'
          have Hm := hid hm'
          have HC := hid hc'
          have hge : decide ((j : Int) < ((s.2.2 p).length : Int)) = false := by simp; omega
          clear hM' hm' hc' hTD
          go_wp2_with fail
          go_roundw
          case rel => exact ⟨hB', m', st', HM.out, Hm.out⟩
          case measure =>
            have h1 := HTD.out
            have h2 := HC.out
            have h3 := HT.out.1
            omega
end Go.Proofs.YtbmjlbcaplgfmaaGreatDoor

/-
  A collection: what cannot be reached is free.
-/
namespace Go.Proofs.YtbmjlbcaplgfmaaGreatDoor
open Go.RowKit

/-- The places that are not free, the first i gone through. -/
def kdi (kd m : Nat → Bool) (i : Nat) : Nat → Bool := fun p => if p ≤ i then kd p && m p else kd p
theorem plc_free (kd : Nat → Bool) (vb : Nat → Nat) (M : Nat → List B.V) (m : Nat → Bool) (i : Nat) (h : m (i + 1) = false) (j : Nat) :
    plcP (kdi kd m (i + 1)) vb M j = upd (upd (upd (plcP (kdi kd m i) vb M) (i * 3) (.int .u8 0)) (i * 3 + 1) (.int .i64 0)) (i * 3 + 2) (.slice none 0 0) j := by
  by_cases e2 : j = i * 3 + 2
  · subst e2; rw [upd_at, plc_2]; simp [kdi, h, slV]
  · rw [upd_off _ _ _ _ e2]
    by_cases e1 : j = i * 3 + 1
    · subst e1; rw [upd_at, plc_1]
    · rw [upd_off _ _ _ _ e1]
      by_cases e0 : j = i * 3
      · subst e0; rw [upd_at, plc_0]; simp [kdi, h, kdV]
      · rw [upd_off _ _ _ _ e0]
        have hk : kdi kd m (i + 1) (j / 3 + 1) = kdi kd m i (j / 3 + 1) := by
          unfold kdi
          by_cases h1 : j / 3 + 1 ≤ i
          · rw [if_pos h1, if_pos (by omega)]
          · rw [if_neg h1, if_neg (by omega)]
        unfold plcP
        rw [hk]
theorem plc_stay (kd : Nat → Bool) (vb : Nat → Nat) (M : Nat → List B.V) (m : Nat → Bool) (i : Nat) (h : m (i + 1) = true) : plcP (kdi kd m (i + 1)) vb M = plcP (kdi kd m i) vb M := by
  have hk : kdi kd m (i + 1) = kdi kd m i := by
    funext p
    unfold kdi
    by_cases h1 : p ≤ i
    · rw [if_pos h1, if_pos (by omega)]
    · rw [if_neg h1]
      by_cases h2 : p ≤ i + 1
      · rw [if_pos h2, show p = i + 1 by omega, h, Bool.and_true]
      · rw [if_neg h2]
  rw [hk]
theorem kdi_zero (kd m : Nat → Bool) (j : Nat) : kdi kd m 0 (j + 1) = kd (j + 1) := by unfold kdi; rw [if_neg (by omega)]

set_option maxRecDepth 100000 in
set_option maxHeartbeats 4000000 in
theorem collect_any (eb lb cl tb kb ck fb cb L nx rb nr : Nat) (back : Value) (sb pb n : Nat) (kd : Nat → Bool) (vb : Nat → Nat) (s : B.St) (w : World) (hR : Rts w w.heap.size eb lb cl tb kb ck fb cb L nx rb nr back sb pb n kd vb s) :
    Calls Tryz.prog 201 #[P0 sb] w fun e w' => e = .returned (.tuple #[]) ∧ ∃ m : Nat → Bool, (∀ p, m p = true ↔ B.Reach nr s p) ∧ Only (fun k => k = pb) w w' ∧ Str w' sb pb eb n (fun p => kd p && m p) vb s.2.2 := by
  have KR := hid hR
  have HC := hid (reached_any eb lb cl tb kb ck fb cb L nx rb nr back sb pb n kd vb s w hR)
  obtain ⟨_, _, _, _, _, _, hS, hl, hH, hn, hnr⟩ := hR
  have ls : sb < w.heap.size := hl.2.2.2.2.2.2.1
  have lp : pb < w.heap.size := hl.2.2.2.2.2.2.2.1
  have KS := hid hS
  have HV := hid hl.2.2.2.2.2.2.2.2
  clear hS hl hH
  go_enter Tryz.func201, Tryz.ntmps201
  go_wp2_with fail
  refine HC.out.mono ?_
  rintro e w1 ⟨rd, m, rfl, hB1, hrd, hF1, hm⟩
  have KB1 := hid hB1
  have KF1 := hid hF1
  have Km := hid hm
  have hS1 := KS.out.below hB1 ls lp HV.out
  have KS1 := hid hS1
  have q0 : w1.cell? ⟨sb, 0, none⟩ = some (.slice (some ⟨pb, 0, none⟩) n n) := by simp [World.cell?, hS1.1]
  have ls1 := heap_lt hS1.1
  clear hB1 hF1 hm hS1
  go_wp2_with fail
  go_loopw [11] (fun i wr => ∃ k : Nat, k ≤ n ∧ i = .int .i64 k ∧ Hid (w1.grownBy wr (some pb)) ∧ Hid (Full wr pb 278 (n * 3) (n * 3) (plcP (kdi kd m k) vb s.2.2))) (fun i _ => n - (intOf i).toNat)
  case atStart =>
    refine ⟨0, by omega, rfl, grown_refl _ _, ?_⟩
    refine KS1.out.2.1.congr (fun j _ => ?_)
    unfold plcP
    rw [kdi_zero]
  case round =>
    obtain ⟨k, hk, rfl, hG, hP⟩ := hrel
    have hD1 : rd ≠ pb := by omega
    have hsp : sb ≠ pb := by
      obtain ⟨curP, hP', _⟩ := KS1.out.2.1
      exact cells_ne KS1.out.1 hP' (by decide)
    by_cases hlt : k < n
    · have hF := KF1.out.kept hG.out hD1
      have c0 := hF.cell k hlt
      have hs := grown_heap hG.out KS1.out.1 (by intro e; injection e with e; exact hsp e)
      have q1 : wr.cell? ⟨sb, 0, none⟩ = some (.slice (some ⟨pb, 0, none⟩) n n) := by simp [World.cell?, hs]
      have hki : (k : Int) < (n : Int) := by omega
      clear hF hs
      cases hmk : m (k + 1)
      · simp only [hmk] at c0
        obtain ⟨p0, z0⟩ := hP.out.cells (k * 3) (by omega)
        obtain ⟨p1, z1⟩ := hP.out.cells (k * 3 + 1) (by omega)
        obtain ⟨p2, z2⟩ := hP.out.cells (k * 3 + 2) (by omega)
        generalize plcP (kdi kd m k) vb s.2.2 (k * 3) = y0 at p0
        generalize plcP (kdi kd m k) vb s.2.2 (k * 3 + 1) = y1 at p1
        generalize plcP (kdi kd m k) vb s.2.2 (k * 3 + 2) = y2 at p2
        have lpw := hP.out.lt
        have HM := hid hmk
        clear hmk
        go_wp2_with fail
        go_roundw
        case rel =>
          refine ⟨k + 1, by omega, by go_num, ?_, ?_⟩
          · exact grown_setCell (grown_setCell (grown_setCell hG.out (Or.inl rfl) _) (Or.inl rfl) _) (Or.inl rfl) _
          · exact (((hP.out.upd (k * 3) (.int .u8 0)).upd (k * 3 + 1) (.int .i64 0)).upd (k * 3 + 2) (.slice none 0 0)).congr (fun j _ => (plc_free kd vb s.2.2 m k HM.out j).symm)
        case measure => simp [intOf]; omega
      · simp only [hmk] at c0
        have HM := hid hmk
        clear hmk
        go_wp2_with fail
        go_roundw
        case rel => exact ⟨k + 1, by omega, by go_num, hG, by show Full _ _ _ _ _ _; rw [plc_stay kd vb s.2.2 m k HM.out]; exact hP.out⟩
        case measure => simp [intOf]; omega
    · obtain rfl : k = n := by omega
      have hge : decide ((k : Int) < (k : Int)) = false := by simp
      go_wp2_with fail
      go_end0
      refine ⟨rfl, m, Km.out, ?_, ?_⟩
      · refine ⟨hG.out.os.trans KB1.out.os, hG.out.tape.trans KB1.out.tape, hG.out.output.trans KB1.out.output, Nat.le_trans KB1.out.size hG.out.size, fun b hb hn => (hG.out.block b (Nat.lt_of_lt_of_le hb KB1.out.size) (by intro e; injection e with e; exact hn e)).trans (KB1.out.block b hb)⟩
      · obtain ⟨s1, s2, s3, s4, s5⟩ := KS1.out
        refine ⟨grown_heap hG.out s1 (by intro e; injection e with e; exact hsp e), hP.out.congr (fun j hj => ?_), fun p a b c => ?_, fun p q a b c d e f => ?_, fun p a => ?_⟩
        · unfold plcP
          have : kdi kd m k (j / 3 + 1) = (kd (j / 3 + 1) && m (j / 3 + 1)) := by unfold kdi; rw [if_pos (by omega)]
          rw [this]
        · have c' : kd p = true := by have c : (kd p && m p) = true := c; simp at c; exact c.1
          refine (s3 p a b c').kept hG.out ?_
          obtain ⟨curP, hP', _⟩ := s2
          obtain ⟨curV, hV', _⟩ := s3 p a b c'
          exact cells_ne hV' hP' (by decide)
        · have e' : kd p = true := by have e : (kd p && m p) = true := e; simp at e; exact e.1
          have f' : kd q = true := by have f : (kd q && m q) = true := f; simp at f; exact f.1
          exact s4 p q a b c d e' f'
        · have a' : kd p = true := by have a : (kd p && m p) = true := a; simp at a; exact a.1
          exact s5 p a'
end Go.Proofs.YtbmjlbcaplgfmaaGreatDoor
