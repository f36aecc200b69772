/-
  Fair: what the law's walk goes by.
-/
import Derived.Test.YtnjiinbhbjpfkaaGreatDoorGateY
namespace Go.Proofs.YtnjiinbhbjpfkaaGreatDoor.F
open Go.RowKit
def nums (l : List Nat) : List Value := l.map (fun t : Nat => Value.int .i64 (t : Int))
theorem nums_app (l m : List Nat) : nums (l ++ m) = nums l ++ nums m := by unfold nums; simp
theorem nums_at {l : List Nat} {j v : Nat} (h : l[j]? = some v) : (nums l)[j]? = some (.int .i64 (v : Int)) := by unfold nums; rw [List.getElem?_map, h]; rfl
structure Tks (w : World) (ad : Option Addr) (len : Nat) (tk : Nat → Int) (ia : Nat → Option Addr) (inn ic : Nat → Nat) (il : Nat → List (Int × Nat)) : Prop where
  n : ad = none → len = 0
  z : ∀ a, ad = some a → ∀ i, i < len → a.block < w.heap.size ∧ w.cell? (a.add (i * 2)) = some (.int .i64 (tk i)) ∧ w.cell? (a.add (i * 2 + 1)) = some (.slice (ia i) (inn i) (ic i))
  i : ∀ i, i < len → inn i = (il i).length ∧ inn i ≤ 1000000000 ∧ (∀ x, x ∈ il i → x.2 < 256) ∧ (ia i = none → il i = []) ∧ ∀ b, ia i = some b → il i ≠ [] → b.block < w.heap.size ∧ ∀ j x, (il i)[j]? = some x → w.cell? (b.add (j * 2)) = some (.int .i64 x.1) ∧ w.cell? (b.add (j * 2 + 1)) = some (.int .u8 (x.2 : Int))
theorem below_cell {N : Nat} {w wr : World} (hB : Below N w wr) {a : Addr} (h : a.block < N) (m : Nat) : wr.cell? (a.add m) = w.cell? (a.add m) := World.cell?_of_block (a := a.add m) (by rw [addr_block]; exact hB.block _ h)
theorem Tks.inp {w wr : World} {ad : Option Addr} {len : Nat} {tk : Nat → Int} {ia : Nat → Option Addr} {inn ic : Nat → Nat} {il : Nat → List (Int × Nat)} (h : Tks w ad len tk ia inn ic il) (hB : Below w.heap.size w wr) {F : Nat → Prop} (hF : ∀ k, F k → w.heap.size ≤ k) {i : Nat} (hi : i < len) : Inp wr (ia i) (inn i) (il i) F := by
  obtain ⟨h1, h2, h3, h4, h5⟩ := h.i i hi
  refine ⟨h1, h2, h3, h4, fun b hb hne => ?_⟩
  obtain ⟨k1, k2⟩ := h5 b hb hne
  refine ⟨Nat.lt_of_lt_of_le k1 hB.size, fun hf => by have := hF _ hf; omega, fun j x hj => ?_⟩
  obtain ⟨c0, c1⟩ := k2 j x hj
  exact ⟨(below_cell hB k1 _).trans c0, (below_cell hB k1 _).trans c1⟩
structure FairI (w : World) (p : Prm) (mb I : Nat) (ad : Option Addr) (c : Nat) (gn : List Nat) (s : Pl) (g : Geo) (wr : World) : Prop where
  b : Below w.heap.size w wr
  m : Mch p s g mb wr
  f : ∀ k, Mine p s g k ∨ k = mb → w.heap.size ≤ k ∧ k < wr.heap.size
  o : wr.ownsRow w.heap.size 3 1 (.slice ad gn.length c) gn.length (nums gn)
  d : ∀ k, adB ad = some k → ¬ (Mine p s g k ∨ k = mb)
  g : Gn s gn
  l : gn.length ≤ 50 * I
  n : s.nt ≤ 1 + 50 * I
structure FairL (w : World) (p : Prm) (mb I qb ab : Nat) (ae : Option Addr) (ce : Nat) (gn0 : List Nat) (s s' : Pl) (g : Geo) (K : Nat) (ad : Option Addr) (c : Nat) (gn : List Nat) (wr : World) : Prop where
  b : Below w.heap.size w wr
  m : Mch p s'.clr g mb wr
  f : ∀ k, Mine p s'.clr g k ∨ k = mb → w.heap.size ≤ k ∧ k < wr.heap.size
  o : wr.ownsRow w.heap.size 3 1 (.slice ad gn.length c) gn.length (nums gn)
  d : ∀ k, adB ad = some k → ¬ (Mine p s'.clr g k ∨ k = mb) ∧ k ≠ qb ∧ k ≠ ab
  q : wr.ownsRow w.heap.size 3 1 (.slice (some ⟨qb, 0, none⟩) (s.q 2 0).length (s.q 2 0).length) (s.q 2 0).length (nums (s.q 2 0))
  a : wr.ownsRow w.heap.size 3 1 (.slice (some ⟨ab, 0, none⟩) (s'.q 2 0).length (s'.q 2 0).length) (s'.q 2 0).length (nums (s'.q 2 0))
  e : wr.ownsRow 0 48 3 (.slice ae s'.ev.length ce) s'.ev.length (evT s'.ev)
  ed : ∀ k, adB ae = some k → ¬ (Mine p s'.clr g k ∨ k = mb)
  qd : ¬ (Mine p s'.clr g qb ∨ qb = mb)
  ak : ¬ (Mine p s'.clr g ab ∨ ab = mb)
  r : Fr9 p s s'
  g0 : Gn s gn0
  gk : gn = gn0 ++ goneL (s'.ev.take K)
  l : gn0.length ≤ 50 * I
  n : s.nt ≤ 1 + 50 * I
  ql : (s.q 2 0).length ≤ 500000000
theorem chk_at {t : Nat} : ∀ (l : List Evt) (gone : List Nat) (k : Nat) (e : Evt), chk t gone l → l[k]? = some e → e.2.1 ∉ gone ++ goneL (l.take k) ∧ (e.1 ≠ 4 → e.2.1 = t)
  | [], _, _, _, _, h => by simp at h
  | x :: l, gone, 0, e, h, he => by
    have : x = e := by simpa using he
    subst this
    have hz : gone ++ goneL ((x :: l).take 0) = gone := by unfold goneL; simp
    rw [hz]
    exact ⟨h.1, h.2.1⟩
  | x :: l, gone, k + 1, e, h, he => by
    have := chk_at l _ k e h.2.2 (by simpa using he)
    rw [List.append_assoc, ← goneL_app] at this
    exact this
theorem take_succ' {l : List Evt} {k : Nat} {e : Evt} (h : l[k]? = some e) : l.take (k + 1) = l.take k ++ [e] := take_snoc l k e h
theorem goneL_len (l : List Evt) : (goneL l).length ≤ l.length := by unfold goneL; rw [List.length_map]; exact List.length_filter_le _ _
theorem Only.below' {N : Nat} {S : Nat → Prop} {w w1 w2 : World} (hB : Below N w w1) (hO : Only S w1 w2) (hS : ∀ k, S k → N ≤ k) (hN : N ≤ w.heap.size) : Below N w w2 :=
  ⟨hO.1.trans hB.os, hO.2.1.trans hB.tape, hO.2.2.1.trans hB.output, Nat.le_trans hB.size hO.size, fun k hk => (hO.same (by have := hB.size; omega) (fun h => by have := hS k h; omega)).trans (hB.block k hk)⟩
theorem own_only {w w' : World} {S : Nat → Prop} {base sz n : Nat} {T : TypeId} {ad : Option Addr} {c : Nat} {xs : List Value} (h : w.ownsRow base T sz (.slice ad n c) n xs) (hO : Only S w w') (hS : ∀ k, adB ad = some k → ¬ S k) : w'.ownsRow base T sz (.slice ad n c) n xs :=
  own_of h (fun k hk => hO.same (own_ty h k hk).2.1 (hS k (by rw [← own_adB ad n c]; exact hk)))
theorem own_base {w : World} {base b2 sz n : Nat} {T : TypeId} {v : Value} {xs : List Value} (h : w.ownsRow base T sz v n xs) (hk : ∀ k, v.ownBlock = some k → b2 ≤ k) : w.ownsRow b2 T sz v n xs := by
  refine ⟨h.1, ?_⟩
  rcases h.2 with h1 | ⟨g, c, cur, h1, h2, h3⟩
  · exact Or.inl h1
  · exact Or.inr ⟨g, c, cur, h1, hk g (by rw [h1]; rfl), h3⟩
def hasC (l : List Evt) : Bool := l.any (fun e => e.1 == 4)
theorem noC_of {l : List Evt} (h : hasC l = false) : noC l := fun e he h4 => by
  have : hasC l = true := by unfold hasC; rw [List.any_eq_true]; exact ⟨e, he, by simp [h4]⟩
  rw [h] at this; cases this
theorem hasC_snoc (l : List Evt) (e : Evt) : hasC (l ++ [e]) = (hasC l || (e.1 == 4)) := by unfold hasC; simp
theorem evT_at {l : List Evt} : ∀ {k : Nat} {e : Evt}, l[k]? = some e → (evT l)[k * 3]? = some (.int .i64 (e.1 : Int)) ∧ (evT l)[k * 3 + 1]? = some (.int .i64 (e.2.1 : Int)) ∧ (evT l)[k * 3 + 2]? = some (.int .i64 e.2.2) := by
  induction l with
  | nil => intro k e h; simp at h
  | cons a l ih =>
    intro k e h
    have hc : evT (a :: l) = .int .i64 (a.1 : Int) :: .int .i64 (a.2.1 : Int) :: .int .i64 a.2.2 :: evT l := by unfold evT; simp
    rw [hc]
    cases k with
    | zero =>
      have : a = e := by simpa using h
      subst this
      exact ⟨rfl, rfl, rfl⟩
    | succ k =>
      have := ih (k := k) (e := e) (by simpa using h)
      rw [show (k + 1) * 3 = k * 3 + 3 by omega]
      exact this
theorem rowNums {w : World} {base n c : Nat} {ad : Option Addr} {l : List Nat} (h : w.ownsRow base 3 1 (.slice ad n c) n (nums l)) (hn : n = l.length) : ∃ gb, ∀ (j v : Nat), l[j]? = some v → ad = some ⟨gb, 0, none⟩ ∧ w.cell? ⟨gb, j, none⟩ = some (.int .i64 (v : Int)) := by
  by_cases e : l = []
  · exact ⟨0, fun j v hj => by rw [e] at hj; simp at hj⟩
  · obtain ⟨gb, c', he⟩ := row_form h (by rw [hn]; exact fun e' => e (List.length_eq_zero_iff.1 e'))
    rw [he] at h
    injection he with a1 _ _
    exact ⟨gb, fun j v hj => ⟨a1, (own_ge h).2.2.2.2.2 j _ (nums_at hj)⟩⟩
theorem own_cellG {w : World} {base sz g n cap j : Nat} {e : TypeId} {x : Value} {xs : List Value} (h : w.ownsRow base e sz (.slice (some ⟨g, 0, none⟩) n cap) n xs) (hx : xs[j]? = some x) : w.cell? ⟨g, j, none⟩ = some x := by
  rcases h.2 with ⟨h, _⟩ | ⟨g', c', cur, h1, _, h2, _, _, h3, h4⟩
  · cases h
  · cases h1
    have hj : j < n * sz := by
      have := (List.getElem?_eq_some_iff.1 hx).1
      have := h.1
      omega
    have : cur[j]? = some x := by
      rw [← h4, List.getElem?_take, if_pos hj] at hx
      simpa using hx
    simp [World.cell?, h2, this]
theorem fair_l0 {w wr w5 w6 w7 : World} {p : Prm} {mb I : Nat} {ag a6 : Option Addr} {cg c6 : Nat} {gn : List Nat} {s1 s6 : Pl} {g1 g6 : Geo} (rI : FairI w p mb I ag cg gn s1 g1 wr)
    (hq5 : w5.ownsRow wr.heap.size 3 1 (.slice (some ⟨wr.heap.size, 0, none⟩) (s1.q 2 0).length (s1.q 2 0).length) (s1.q 2 0).length (nums (s1.q 2 0))) (hg5 : Goes p s1 g1 mb wr s1 g1 w5) (hr : Fr9 p s1 s6)
    (ho6 : w6.ownsRow 0 48 3 (.slice a6 s6.ev.length c6) s6.ev.length (evT s6.ev)) (hg6 : Goes p s1 g1 mb w5.drew s6.clr g6 w6) (hd6 : ∀ k, adB a6 = some k → ¬ Mine p s6.clr g6 k ∧ k ≠ mb ∧ k < w6.heap.size)
    (hq7 : w7.ownsRow w6.heap.size 3 1 (.slice (some ⟨w6.heap.size, 0, none⟩) (s6.q 2 0).length (s6.q 2 0).length) (s6.q 2 0).length (nums (s6.q 2 0))) (hg7 : Goes p s6.clr g6 mb w6 s6.clr g6 w7) :
    FairL w p mb I wr.heap.size w6.heap.size a6 c6 gn s1 s6 g6 0 ag cg gn w7 := by
  have hB5 : Below w.heap.size w w5 := Only.below' rI.b hg5.o (fun k hk => (rI.f k hk).1) (Nat.le_refl _)
  have hNr := rI.b.size
  have hz5 := hg5.o.size
  have hz6 : w5.heap.size ≤ w6.heap.size := hg6.o.size
  have hz7 := hg7.o.size
  have hO56 : Only (fun k => Mine p s1 g1 k ∨ k = mb) w5 w6 := hg6.o
  have hB6 : Below w.heap.size w w6 := Only.below' hB5 hO56 (fun k hk => (rI.f k hk).1) (Nat.le_refl _)
  have hl5 : wr.heap.size < w5.heap.size := (own_ty hq5 wr.heap.size rfl).2.1
  have hl7 : w6.heap.size < w7.heap.size := (own_ty hq7 w6.heap.size rfl).2.1
  have hmb : mb < wr.heap.size := (rI.f mb (Or.inr rfl)).2
  have hn6 : ∀ k, Mine p s6.clr g6 k → Mine p s1 g1 k ∨ w5.heap.size ≤ k := hg6.n
  have hf6 : ∀ k, Mine p s6.clr g6 k ∨ k = mb → w.heap.size ≤ k ∧ k < w6.heap.size := fun k hk => by
    rcases hk with hk | rfl
    · refine ⟨?_, hg6.m.r.lt hk⟩
      rcases hn6 k hk with h1 | h1
      · exact (rI.f k (Or.inl h1)).1
      · omega
    · exact ⟨(rI.f k (Or.inr rfl)).1, by omega⟩
  have hB7 : Below w.heap.size w w7 := Only.below' hB6 hg7.o (fun k hk => (hf6 k hk).1) (Nat.le_refl _)
  have hgk : ∀ k, adB ag = some k → k < wr.heap.size := fun k hk => (own_ty rI.o k (by rw [own_adB]; exact hk)).2.1
  have hold : ∀ k, k < w5.heap.size → ¬ (Mine p s1 g1 k ∨ k = mb) → ¬ (Mine p s6.clr g6 k ∨ k = mb) := fun k hk hn hm => by
    rcases hm with h1 | h1
    · rcases hn6 k h1 with h2 | h2
      · exact hn (Or.inl h2)
      · omega
    · exact hn (Or.inr h1)
  have hqn : ¬ (Mine p s1 g1 wr.heap.size ∨ wr.heap.size = mb) := fun h => by have := (rI.f _ h).2; omega
  have hqn6 := hold _ hl5 hqn
  have ha6 : ¬ (Mine p s6.clr g6 w6.heap.size ∨ w6.heap.size = mb) := fun h => by have := (hf6 _ h).2; omega
  have hg0 : gn = gn ++ goneL (s6.ev.take 0) := by unfold goneL; simp
  have o5 := own_only rI.o hg5.o rI.d
  have o6 := own_only o5 hO56 rI.d
  have hd6' : ∀ k, adB ag = some k → ¬ (Mine p s6.clr g6 k ∨ k = mb) := fun k hk => hold k (by have := hgk k hk; omega) (rI.d k hk)
  have q6 := own_only hq5 hO56 (fun k hk => by
    have e : wr.heap.size = k := by injection hk
    rw [← e]; exact hqn)
  have q7 := own_only q6 hg7.o (fun k hk => by
    have e : wr.heap.size = k := by injection hk
    rw [← e]; exact hqn6)
  refine ⟨hB7, hg7.m, fun k hk => ⟨(hf6 k hk).1, by have := (hf6 k hk).2; omega⟩, own_only o6 hg7.o hd6', fun k hk => ⟨hd6' k hk, by have := hgk k hk; omega, by have := hgk k hk; omega⟩, own_base q7 (fun k hk => by
    have e : wr.heap.size = k := by injection hk
    omega), own_base hq7 (fun k hk => by
    have e : w6.heap.size = k := by injection hk
    omega), own_only ho6 hg7.o (fun k hk => fun h => h.elim (hd6 k hk).1 (hd6 k hk).2.1), fun k hk h => h.elim (hd6 k hk).1 (hd6 k hk).2.1, hqn6, ha6, hr, rI.g, hg0, rI.l, rI.n, rI.m.ok.lw.len (Or.inl ⟨rfl, rfl⟩)⟩
theorem FairL.kept {w : World} {p : Prm} {mb I qb ab : Nat} {ae : Option Addr} {ce : Nat} {gn0 : List Nat} {s s' : Pl} {g : Geo} {K : Nat} {ad : Option Addr} {c : Nat} {gn : List Nat} {wr w' : World} (h : FairL w p mb I qb ab ae ce gn0 s s' g K ad c gn wr) (hg : wr.grownBy w' none) : FairL w p mb I qb ab ae ce gn0 s s' g K ad c gn w' := by
  have hO : Only (fun _ => False) wr w' := only_none hg
  obtain ⟨x, hx⟩ := h.m.bx
  exact { h with b := Only.below' h.b hO (fun _ h => h.elim) (Nat.le_refl _), m := ⟨h.m.r.kept hg, h.m.ok, h.m.ev, ⟨x, grown_out hg hx⟩, h.m.nm⟩, f := fun k hk => ⟨(h.f k hk).1, Nat.lt_of_lt_of_le (h.f k hk).2 hg.size⟩, o := own_only h.o hO (fun _ _ h => h), q := own_only h.q hO (fun _ _ h => h), a := own_only h.a hO (fun _ _ h => h), e := own_only h.e hO (fun _ _ h => h) }
theorem FairL.ev {w : World} {p : Prm} {mb I qb ab : Nat} {ae : Option Addr} {ce : Nat} {gn0 : List Nat} {s s' : Pl} {g : Geo} {K : Nat} {ad : Option Addr} {c : Nat} {gn : List Nat} {wr : World} (h : FairL w p mb I qb ab ae ce gn0 s s' g K ad c gn wr) {e : Evt} (he : s'.ev[K]? = some e) :
    (∃ eb, ae = some ⟨eb, 0, none⟩ ∧ wr.cell? ⟨eb, K * 3, none⟩ = some (.int .i64 (e.1 : Int)) ∧ wr.cell? ⟨eb, K * 3 + 1, none⟩ = some (.int .i64 (e.2.1 : Int)) ∧ wr.cell? ⟨eb, K * 3 + 2, none⟩ = some (.int .i64 e.2.2) ∧ eb < wr.heap.size) ∧ e.2.1 ∉ gn ∧ (∀ t r, s.q 2 0 = t :: r → e.1 ≠ 4 → e.2.1 = t) := by
  constructor
  · have hK := (List.getElem?_eq_some_iff.1 he).1
    obtain ⟨eb, c', hf⟩ := row_form h.e (by omega)
    have hr := h.e
    rw [hf] at hr
    injection hf with a1 _ _
    obtain ⟨e0, e1, e2⟩ := evT_at he
    exact ⟨eb, a1, own_cellG hr e0, own_cellG hr e1, own_cellG hr e2, (own_ty hr eb rfl).2.1⟩
  · obtain ⟨t', h1, h2, _⟩ := h.r.ev gn0 h.g0
    have := chk_at s'.ev gn0 K e h2 he
    rw [h.gk]
    exact ⟨this.1, fun t r hq h4 => (this.2 h4).trans (h1 t r hq)⟩
theorem FairL.stay {w : World} {p : Prm} {mb I qb ab : Nat} {ae : Option Addr} {ce : Nat} {gn0 : List Nat} {s s' : Pl} {g : Geo} {K : Nat} {ad : Option Addr} {c : Nat} {gn : List Nat} {wr : World} (h : FairL w p mb I qb ab ae ce gn0 s s' g K ad c gn wr) {e : Evt} (he : s'.ev[K]? = some e) (hk : e.1 ≠ 2 ∧ e.1 ≠ 3 ∧ e.1 ≠ 4) : FairL w p mb I qb ab ae ce gn0 s s' g (K + 1) ad c gn wr := by
  have : goneL [e] = [] := by unfold goneL; simp [hk.1, hk.2.1, hk.2.2]
  exact { h with gk := by rw [take_succ' he, goneL_app, this, List.append_nil]; exact h.gk }
theorem FairL.gl {w : World} {p : Prm} {mb I qb ab : Nat} {ae : Option Addr} {ce : Nat} {gn0 : List Nat} {s s' : Pl} {g : Geo} {K : Nat} {ad : Option Addr} {c : Nat} {gn : List Nat} {wr : World} (h : FairL w p mb I qb ab ae ce gn0 s s' g K ad c gn wr) (hq : p.qn ≤ 50) : gn.length ≤ 50 * I + 50 := by
  rw [h.gk, List.length_append]
  have h1 := goneL_len (s'.ev.take K)
  have h2 := h.l
  have h3 := h.r.el
  have h4 : (s'.ev.take K).length ≤ s'.ev.length := by rw [List.length_take]; omega
  omega
theorem FairL.goes {w : World} {p : Prm} {mb I qb ab : Nat} {ae : Option Addr} {ce : Nat} {gn0 : List Nat} {s s' : Pl} {g : Geo} {K : Nat} {ad : Option Addr} {c : Nat} {gn : List Nat} {wr w' : World} (h : FairL w p mb I qb ab ae ce gn0 s s' g K ad c gn wr) {e : Evt} (he : s'.ev[K]? = some e) (hk : e.1 = 2 ∨ e.1 = 3 ∨ e.1 = 4) {v' : Value}
    (ho : w'.ownsRow 0 3 1 v' (gn.length + 1) (nums gn ++ [.int .i64 (e.2.1 : Int)])) (hg : wr.grownBy w' (Value.slice ad gn.length c).ownBlock) (hm : Moved wr.heap.size (.slice ad gn.length c) v') :
    ∃ ad' c', v' = .slice ad' (gn ++ [e.2.1]).length c' ∧ FairL w p mb I qb ab ae ce gn0 s s' g (K + 1) ad' c' (gn ++ [e.2.1]) w' := by
  obtain ⟨ad', c', rfl⟩ := row_val ho
  have hlen : (gn ++ [e.2.1]).length = gn.length + 1 := by rw [List.length_append]; rfl
  have hob : ∀ k, (Value.slice ad gn.length c).ownBlock = some k ↔ adB ad = some k := fun k => by rw [own_adB]
  have hO : Only (fun k => adB ad = some k) wr w' := ⟨hg.os, hg.tape, hg.output, hg.size, fun k hk hn => hg.block k hk (fun e' => hn ((hob k).1 e'.symm))⟩
  have hNr := h.b.size
  have hge : ∀ k, adB ad = some k → w.heap.size ≤ k ∧ k < wr.heap.size := fun k hk => by
    have := own_ty h.o k (by rw [own_adB]; exact hk)
    exact ⟨this.1, this.2.1⟩
  have hmv : ∀ k, adB ad' = some k → adB ad = some k ∨ wr.heap.size ≤ k := fun k hk => by
    have hk' : (Value.slice ad' (gn.length + 1) c').ownBlock = some k := by rw [own_adB]; exact hk
    rcases hm with h1 | ⟨g', h1, h2⟩
    · rw [h1] at hk'
      exact Or.inl ((hob k).1 hk')
    · rw [h1] at hk'
      injection hk' with hk'
      exact Or.inr (by omega)
  have hlq : qb < wr.heap.size := (own_ty h.q qb rfl).2.1
  have hla : ab < wr.heap.size := (own_ty h.a ab rfl).2.1
  have hgn : goneL [e] = [e.2.1] := by
    unfold goneL
    rcases hk with h1 | h1 | h1 <;> simp [h1]
  obtain ⟨x, hx⟩ := h.m.bx
  have hmb : ¬ adB ad = some mb := fun hk => (h.d mb hk).1 (Or.inr rfl)
  refine ⟨ad', c', by rw [hlen], Only.below' h.b hO (fun k hk => (hge k hk).1) (Nat.le_refl _), ⟨h.m.r.only hO (fun k hk hs => (h.d k hs).1 (Or.inl hk)), h.m.ok, h.m.ev, ⟨x, hO.block hx hmb⟩, h.m.nm⟩, fun k hk => ⟨(h.f k hk).1, Nat.lt_of_lt_of_le (h.f k hk).2 hg.size⟩, ?_, fun k hk => ?_, own_only h.q hO (fun k hk hs => ?_), own_only h.a hO (fun k hk hs => ?_), own_only h.e hO (fun k hk hs => ?_), h.ed, h.qd, h.ak, h.r, h.g0, ?_, h.l, h.n, h.ql⟩
  · rw [hlen, nums_app]
    refine own_base ho (fun k hk => ?_)
    rcases hmv k (by rw [← own_adB ad' (gn.length + 1) c']; exact hk) with h1 | h1
    · exact (hge k h1).1
    · omega
  · rcases hmv k hk with h1 | h1
    · exact h.d k h1
    · exact ⟨fun hm' => by have := (h.f k hm').2; omega, by omega, by omega⟩
  · have e' : qb = k := by injection hk
    exact (h.d k hs).2.1 e'.symm
  · have e' : ab = k := by injection hk
    exact (h.d k hs).2.2 e'.symm
  · obtain ⟨_, _, cur, q1⟩ := own_ty h.o k (by rw [own_adB]; exact hs)
    obtain ⟨_, _, cur2, q2⟩ := own_ty h.e k (by rw [own_adB]; exact hk)
    rw [q1] at q2
    injection q2 with q2
    injection q2 with _ q3 _
    exact absurd q3 (by decide)
  · rw [take_succ' he, goneL_app, hgn, ← List.append_assoc, ← h.gk]
theorem FairL.ask {w : World} {p : Prm} {mb I qb ab : Nat} {ae : Option Addr} {ce : Nat} {gn0 : List Nat} {s s' : Pl} {g : Geo} {K : Nat} {ad : Option Addr} {c : Nat} {gn : List Nat} {wr w' : World} (h : FairL w p mb I qb ab ae ce gn0 s s' g K ad c gn wr) (hg : Goes p s'.clr g mb wr s'.clr g w') : FairL w p mb I qb ab ae ce gn0 s s' g K ad c gn w' :=
  { h with b := Only.below' h.b hg.o (fun k hk => (h.f k hk).1) (Nat.le_refl _), m := hg.m, f := fun k hk => ⟨(h.f k hk).1, Nat.lt_of_lt_of_le (h.f k hk).2 hg.o.size⟩, o := own_only h.o hg.o (fun k hk => (h.d k hk).1), q := own_only h.q hg.o (fun k hk => (by
      have e : qb = k := by injection hk
      rw [← e]; exact h.qd)), a := own_only h.a hg.o (fun k hk => (by
      have e : ab = k := by injection hk
      rw [← e]; exact h.ak)), e := own_only h.e hg.o (fun k hk => h.ed k hk) }
theorem FairL.gone {w : World} {p : Prm} {mb I qb ab : Nat} {ae : Option Addr} {ce : Nat} {gn0 : List Nat} {s s' : Pl} {g : Geo} {K : Nat} {ad : Option Addr} {c : Nat} {gn : List Nat} {wr : World} (h : FairL w p mb I qb ab ae ce gn0 s s' g K ad c gn wr) (hK : K = s'.ev.length) : Gn s'.clr gn := by
  obtain ⟨_, _, _, h3⟩ := h.r.ev gn0 h.g0
  rw [h.gk, hK, List.take_length]
  exact h3
theorem FairL.next {w : World} {p : Prm} {mb I qb ab : Nat} {ae : Option Addr} {ce : Nat} {gn0 : List Nat} {s s' : Pl} {g : Geo} {K : Nat} {ad : Option Addr} {c : Nat} {gn : List Nat} {wr : World} (h : FairL w p mb I qb ab ae ce gn0 s s' g K ad c gn wr) (hK : K = s'.ev.length) (hq : p.qn ≤ 50) : FairI w p mb (I + 1) ad c gn s'.clr g wr :=
  ⟨h.b, h.m, h.f, h.o, fun k hk => (h.d k hk).1, h.gone hK, by have := h.gl hq; omega, by
    have h1 := h.r.n2
    have h2 := h.n
    show s'.nt ≤ _
    omega⟩
theorem FairL.fresh {w : World} {p : Prm} {mb I qb ab : Nat} {ae : Option Addr} {ce : Nat} {gn0 : List Nat} {s s' : Pl} {g : Geo} {K : Nat} {ad : Option Addr} {c : Nat} {gn : List Nat} {wr : World} (h : FairL w p mb I qb ab ae ce gn0 s s' g K ad c gn wr) (hK : K = s'.ev.length) {k v : Nat} (hv : (s'.q 2 0)[k]? = some v) : v ∉ gn ∧ v ∉ (s'.q 2 0).take k := by
  have hl : lnok s'.clr 2 0 := Or.inl ⟨rfl, rfl⟩
  have hm : v ∈ s'.q 2 0 := List.mem_of_getElem? hv
  refine ⟨fun hg => (h.gone hK v hg).2 (h.m.ok.ql 2 0 hl v hm), fun ht => ?_⟩
  have hn : (s'.q 2 0).Nodup := h.m.ok.lw.c 2 0 hl
  obtain ⟨hk, e⟩ := List.getElem?_eq_some_iff.1 hv
  have hs : (s'.q 2 0) = (s'.q 2 0).take k ++ (s'.q 2 0).drop k := (List.take_append_drop k _).symm
  rw [hs, List.nodup_append] at hn
  refine hn.2.2 v ht v ?_ rfl
  rw [List.drop_eq_getElem_cons hk, e]
  simp
theorem FairL.up {w : World} {p : Prm} {mb I qb ab : Nat} {ae : Option Addr} {ce : Nat} {gn0 : List Nat} {s s' : Pl} {g : Geo} {K : Nat} {ad : Option Addr} {c : Nat} {gn : List Nat} {wr : World} (h : FairL w p mb I qb ab ae ce gn0 s s' g K ad c gn wr) (hK : K = s'.ev.length) (hc : hasC (s'.ev.take K) = false) (hsp : s'.sp = false) {t : Nat} {r : List Nat} (hq : s.q 2 0 = t :: r) : ∃ m, s'.q 2 0 = r ++ m := by
  rw [hK, List.take_length] at hc
  exact h.r.q t r hq (noC_of hc) hsp
theorem FairL.lens {w : World} {p : Prm} {mb I qb ab : Nat} {ae : Option Addr} {ce : Nat} {gn0 : List Nat} {s s' : Pl} {g : Geo} {K : Nat} {ad : Option Addr} {c : Nat} {gn : List Nat} {wr : World} (h : FairL w p mb I qb ab ae ce gn0 s s' g K ad c gn wr) : (s.q 2 0).length ≤ 1000000000 ∧ (s'.q 2 0).length ≤ 1000000000 := by
  have hl : lnok s'.clr 2 0 := Or.inl ⟨rfl, rfl⟩
  have h2 : (s'.q 2 0).length ≤ 500000000 := h.m.ok.lw.len hl
  have h3 := h.ql
  exact ⟨by omega, by omega⟩
theorem setF_fr (s : Pl) (t i : Nat) (f : Frm) : ((s.setF t i f).T t).fr = (s.T t).fr.set i f := by unfold Pl.setF; rw [setT_at]
structure Em (s : Pl) (j : Nat) (f : Frm) (ev : List Evt) : Prop where
  fr : (s.T 1).fr = [f]
  ff : f.f = 0
  nx : f.nx = j
  ev : s.ev = ev
theorem Em.top {s : Pl} {j : Nat} {f : Frm} {ev : List Evt} (h : Em s j f ev) : topN s 1 = 0 ∧ topF s 1 = f := by
  have h0 : topN s 1 = 0 := by unfold topN; rw [h.fr]; rfl
  refine ⟨h0, ?_⟩
  show frAt s 1 (topN s 1) = f
  rw [h0]
  unfold frAt
  rw [h.fr]; rfl
theorem Em.took {s : Pl} {j : Nat} {f : Frm} {ev : List Evt} (h : Em s j f ev) : Em (s.took 1) (j + 1) { f with nx := f.nx + 1 } ev := by
  obtain ⟨t0, t1⟩ := h.top
  refine ⟨?_, h.ff, by show f.nx + 1 = _; rw [h.nx], h.ev⟩
  unfold Pl.took
  rw [setF_fr, h.fr, t0, t1]
  rfl
theorem ends_em {p : Prm} {s : Pl} {k : Nat} (hk : 0 < k) (h : (topF s 1).nx ≠ p.len (topF s 1).f) : s.ends p 1 k = s := by
  cases k with
  | zero => omega
  | succ k => unfold Pl.ends; rw [if_neg (fun e => h e.2)]
theorem Em.step {p : Prm} {s s' : Pl} {j : Nat} {f : Frm} {ev : List Evt} {k : Ins} (h : Em s j f ev) (hr : (s.T 1).run = true) (hl : p.len 0 = 2) (hj : j < 2) (hi : p.ins 0 j = k) (hs : stepR p 1 s s') : ∃ why s3, instR p (s.took 1) 1 k why s3 ∧ s' = if why = 0 then s3 else s3.leave 1 (0, -why) 3 why := by
  obtain ⟨t0, t1⟩ := h.top
  have he : s.ends p 1 21 = s := ends_em (by omega) (by rw [t1, h.nx, h.ff, hl]; omega)
  unfold stepR at hs
  rw [he, if_pos hr] at hs
  obtain ⟨why, s3, h1, h2⟩ := hs
  rw [t1, h.ff, h.nx, hi] at h1
  exact ⟨why, s3, h1, h2⟩
theorem em_num {p : Prm} {s s' : Pl} {f : Frm} {ev : List Evt} (h : Em s 0 f ev) (hr : (s.T 1).run = true) (hl : p.len 0 = 2) (hi : p.ins 0 0 = (0, 0, 0, 7)) (hs : stepR p 1 s s') : (s'.T 1).run = true ∧ ∃ f', Em s' 1 f' ev ∧ f'.R 0 = (0, 7) := by
  obtain ⟨why, s3, h1, h2⟩ := h.step hr hl (by omega) hi hs
  obtain ⟨e1, e2⟩ : why = 0 ∧ s3 = numS (s.took 1) 1 0 (B.wide 0 7) := h1
  subst e1
  rw [if_pos rfl, e2] at h2
  subst h2
  have hT := h.took
  obtain ⟨t0, t1⟩ := hT.top
  have hrun : ((s.took 1).T 1).run = true := (setF_wh s 1 (topN s 1) 1 _).2.2.1.trans hr
  refine ⟨(setF_wh (s.took 1) 1 (topN (s.took 1) 1) 1 _).2.2.1.trans hrun, (topF (s.took 1) 1).set 0 (0, B.wide 0 7), ⟨?_, ?_, ?_, hT.ev⟩, ?_⟩
  · unfold numS
    rw [setF_fr, hT.fr, t0]
    rfl
  · rw [t1]; exact h.ff
  · rw [t1]; exact hT.nx
  · show B.set (topF (s.took 1) 1).R 0 (0, B.wide 0 7) 0 = _
    rw [B.set_at]; rfl
theorem em_emit {p : Prm} {s s' : Pl} {f : Frm} {ev : List Evt} (h : Em s 1 f ev) (h7 : f.R 0 = (0, 7)) (hr : (s.T 1).run = true) (hl : p.len 0 = 2) (hi : p.ins 0 1 = (20, 0, 0, 0)) (hs : stepR p 1 s s') : (s'.T 1).run = true ∧ ∃ f', Em s' 2 f' (ev ++ [(1, 1, 7)]) := by
  obtain ⟨why, s3, h1, h2⟩ := h.step hr hl (by omega) hi hs
  have hT := h.took
  obtain ⟨t0, t1⟩ := hT.top
  have hR : (topF (s.took 1) 1).R 0 = (0, 7) := by rw [t1]; exact h7
  obtain ⟨e1, e2⟩ : why = (emitS (s.took 1) 1 0).1 ∧ s3 = (emitS (s.took 1) 1 0).2 := h1
  unfold emitS at e1 e2
  rw [hR] at e1 e2
  simp only [if_true] at e1 e2
  subst e1
  rw [if_pos rfl, e2] at h2
  subst h2
  have hrun : ((s.took 1).T 1).run = true := (setF_wh s 1 (topN s 1) 1 _).2.2.1.trans hr
  exact ⟨hrun, _, ⟨hT.fr, hT.ff, hT.nx, by show (s.took 1).ev ++ _ = _; rw [hT.ev]⟩⟩
theorem em_end {p : Prm} {s s' : Pl} {f : Frm} {ev : List Evt} (hR : Rn p s 1) (h : Em s 2 f ev) (hl : p.len 0 = 2) (hs : stepR p 1 s s') : (s'.T 1).run = false ∧ s'.ev = ev ++ [(2, 1, 0)] := by
  obtain ⟨t0, t1⟩ := h.top
  have hb := (back_run hR.ok.lw hR.ht (0, 0)).1 t0
  have he : s.ends p 1 21 = s.back 1 (0, 0) := by
    show (if (s.T 1).run = true ∧ (topF s 1).nx = p.len (topF s 1).f then Pl.ends p 1 20 (s.back 1 (0, 0)) else s) = _
    rw [if_pos ⟨hR.run, by rw [t1, h.nx, h.ff, hl]⟩]
    show (if ((s.back 1 (0, 0)).T 1).run = true ∧ _ then _ else s.back 1 (0, 0)) = _
    rw [if_neg (fun e => by rw [hb] at e; cases e.1)]
  unfold stepR at hs
  rw [he, if_neg (by rw [hb]; decide)] at hs
  subst hs
  refine ⟨hb, ?_⟩
  rw [((back_st s 1 (0, 0)).1 t0).2.1, h.ev]
theorem runs_stopped {p : Prm} {t : Nat} {s s' : Pl} (hr : (s.T t).run = false) : ∀ n, runsR p t n s s' → s' = s
  | 0, h => h
  | n + 1, h => by
    unfold runsR at h
    rw [if_neg (by rw [hr]; decide)] at h
    exact h
theorem em_turn {p : Prm} {s s' : Pl} {f : Frm} (hPI : PI p) (hO : Ok p s) (hq : s.q 2 0 = [1]) (hq3 : s.q 3 0 = []) (hlv : s.lv = [1]) (hsp : s.sp = false) (hev : s.ev = []) (hnt : s.nt = 1) (hfr : (s.T 1).fr = [f]) (hff : f.f = 0) (hnx : f.nx = 0) (hl : p.len 0 = 2) (hi0 : p.ins 0 0 = (0, 0, 0, 7)) (hi1 : p.ins 0 1 = (20, 0, 0, 0)) (hqn : p.qn = 9) (ht : turnR p s 0 [] s') : s'.ev = [(1, 1, 7), (2, 1, 0)] := by
  have hC : s.setC (B.aft s.clk 0) = s := by
    have : B.aft s.clk 0 = s.clk := by unfold B.aft; simp
    rw [this]
    rfl
  unfold turnR at ht
  have hr : (s.setC (B.aft s.clk 0)).recvs [] = s := hC
  rw [hr, if_pos ⟨by rw [hlv]; simp, hsp⟩] at ht
  obtain ⟨s1, h1, rfl⟩ := ht
  have hw : s.wakes (s.q 3 0) = s := by rw [hq3]; rfl
  rw [hw] at h1
  unfold firstR at h1
  rw [hq] at h1
  obtain ⟨s2, h2, h3⟩ := h1
  rw [hqn] at h2
  have h1m : 1 ∈ s.lv := by rw [hlv]; simp
  have hS : Ok p (s.start 1) := hO.start h1m
  have hTt : (s.start 1).T 1 = { (s.out1 1).T 1 with run := true } := setT_at _ _ _
  have hrun : ((s.start 1).T 1).run = true := by rw [hTt]
  have hnt1 : (s.start 1).nt = 1 := (out1_nt s 1).trans hnt
  have hE0 : Em (s.start 1) 0 f [] := ⟨by rw [hTt]; show ((s.out1 1).T 1).fr = _; rw [out1_fr, hfr], hff, hnx, (out1_lv s 1).2.2.2.1.trans hev⟩
  have hlv1 : 1 ∈ (s.start 1).lv := by
    show 1 ∈ (s.out1 1).lv
    rw [(out1_lv s 1).1]; exact h1m
  have rn : ∀ {a : Pl}, Ok p a → a.nt ≤ 20 → isT a 1 → (a.T 1).run = true → Rn p a 1 := fun hOa _ hTa hra => ⟨hOa, (hOa.rn 1 hTa hra).2, hra⟩
  have hT1 : isT (s.start 1) 1 := ⟨Nat.le_refl _, by rw [hnt1]; exact Nat.le_refl _⟩
  unfold runsR at h2
  rw [if_pos hrun] at h2
  obtain ⟨a1, g1, h2⟩ := h2
  obtain ⟨o1, G1⟩ := step_ok hPI (rn hS (by omega) hT1 hrun) (by omega) g1
  obtain ⟨r1, f1, E1, R1⟩ := em_num hE0 hrun hl hi0 g1
  have n1 := G1.nt
  have T1 : isT a1 1 := ⟨Nat.le_refl _, by omega⟩
  unfold runsR at h2
  rw [if_pos r1] at h2
  obtain ⟨a2, g2, h2⟩ := h2
  obtain ⟨o2, G2⟩ := step_ok hPI (rn o1 (by omega) T1 r1) (by omega) g2
  obtain ⟨r2, f2, E2⟩ := em_emit E1 R1 r1 hl hi1 g2
  have n2 := G2.nt
  have T2 : isT a2 1 := ⟨Nat.le_refl _, by omega⟩
  unfold runsR at h2
  rw [if_pos r2] at h2
  obtain ⟨a3, g3, h2⟩ := h2
  obtain ⟨r3, e3⟩ := em_end (rn o2 (by omega) T2 r2) E2 hl g3
  have e4 := runs_stopped r3 6 h2
  subst e4
  rw [if_neg (by rw [r3]; decide)] at h3
  subst h3
  exact e3
def emTx : ByteArray := txt [1, 2, 2, 0, 0, 0, 7, 20, 0, 0, 0]
theorem em_txt (l : List Nat) : ({ data := #[1] } : ByteArray) ++ txt l = txt (1 :: l) := by
  unfold txt
  apply ByteArray.ext
  simp
theorem em_full (l : List Nat) (j : Nat) (hj : j < l.length) : (u8s l).toArray[j]? = some (.int .u8 (l.getD j 0 : Nat)) := by
  simp [u8s, hj, List.getD]
theorem em_prg : (M.prg emTx).2 = true := by kernel_rfl
theorem em_len : M.bt emTx (M.pos emTx 0 + 1) = 2 := by kernel_rfl
theorem em_i0 : insAt emTx (M.pos emTx 0 + 2 + 4 * 0) = (0, 0, 0, 7) := by kernel_rfl
theorem em_i1 : insAt emTx (M.pos emTx 0 + 2 + 4 * 1) = (20, 0, 0, 0) := by kernel_rfl
theorem em_first {p : Prm} {s' : Pl} {g : Geo} {mb : Nat} {w : World} (hP : Pgm p) (hM : Mch p (s00.born 0 (0, 0) (0, 0)) g mb w) (hT : Told p emTx 9) (ht : turnR p (s00.born 0 (0, 0) (0, 0)) 0 [] s') : s'.ev = [(1, 1, 7), (2, 1, 0)] := by
  obtain ⟨t1, t2, t3⟩ := hT
  exact em_turn (f := ⟨0, 0, reg0 (0, 0) (0, 0), (0, 0, 0, 0)⟩) hP.pi hM.ok rfl rfl rfl rfl hM.ev (born_nt s00 0 (0, 0) (0, 0)) rfl rfl rfl ((t1 0).trans em_len) ((t2 0 0).trans em_i0) ((t2 0 1).trans em_i1) (by omega) ht
theorem em_ok : okC 1 9 1 1 = true := by decide
theorem em_kept {p : Prm} {s : Pl} {g : Geo} {mb : Nat} {w w' : World} (h : Mch p s g mb w) (hg : w.grownBy w' none) : Mch p s g mb w' := by
  obtain ⟨x, hx⟩ := h.bx
  exact ⟨h.r.kept hg, h.ok, h.ev, ⟨x, grown_out hg hx⟩, h.nm⟩
set_option maxRecDepth 100000 in
set_option maxHeartbeats 1000000 in
theorem emits2_any (w : World) (hG : Tab w) : Calls Tryz.prog 20 #[] w fun e w' => e = .returned (.bool true) ∧ Below w.heap.size w w' := by
  have HG : Hid (Tab w) := hG
  clear hG
  go_enter Tryz.func20, Tryz.ntmps20
  go_wp2_with fail
  refine (Go.Proofs.YtnjiinbhbjpfkaaGreatDoor.function_any 2 2 w.heap.size 2 37 8 (fun j => ([0, 0, 0, 7, 20, 0, 0, 0] : List Nat).getD j 0) _ (by omega) (by omega) (by decide) ⟨_, heap_alloc_new w _, rfl, fun j hj => em_full [0, 0, 0, 7, 20, 0, 0, 0] j hj⟩ (by omega)).mono ?_
  rintro e w1 ⟨rfl, hB1⟩
  have KB1 : Hid (Below w.heap.size w w1) := ((Below.refl _ _).alloc (Nat.le_refl _) _).trans (hB1.mono (by simp))
  have htx : ({ data := #[1] } : ByteArray) ++ txt (2 :: 2 :: codeL (fun j => ([0, 0, 0, 7, 20, 0, 0, 0] : List Nat).getD j 0) 2) = emTx := by rw [em_txt]; rfl
  have hts : (txt (2 :: 2 :: codeL (fun j => ([0, 0, 0, 7, 20, 0, 0, 0] : List Nat).getD j 0) 2)).size = 10 := rfl
  clear hB1
  generalize txt (2 :: 2 :: codeL (fun j => ([0, 0, 0, 7, 20, 0, 0, 0] : List Nat).getD j 0) 2) = tx at *
  have HTX : Hid (({ data := #[1] } : ByteArray) ++ tx = emTx) := htx
  clear htx
  go_wp2_with fail
  generalize hty : ({ data := #[1] } : ByteArray) ++ tx = ty
  have HTY : ty = emTx := hty.symm.trans HTX.out
  subst HTY
  clear hty HTX hts
  refine (loadM2 emTx 1 9 1 1 w1 (by unfold maxLen; show (11 : Nat) ≤ _; omega) (HG.out.below KB1.out)).mono ?_
  rintro e w2 ⟨hB2, ⟨x, y, _, hno⟩ | ⟨mb, p, g, rfl, hP, hM, hTo, hF⟩⟩
  · exact absurd ⟨em_ok, em_prg⟩ hno
  have hz1 := KB1.out.size
  have KB2 : Hid (Below w.heap.size w w2) := KB1.out.trans (hB2.mono hz1)
  have KM := hid hM
  have KP := hid hP
  have KFi : Hid (∀ s', turnR p (s00.born 0 (0, 0) (0, 0)) 0 [] s' → s'.ev = [(1, 1, 7), (2, 1, 0)]) := fun s' ht => em_first hP hM hTo ht
  have KQ : Hid (p.qn = 9) := by have := hTo.2.2; show p.qn = 9; omega
  have KF : Hid (∀ k, Mine p (s00.born 0 (0, 0) (0, 0)) g k ∨ k = mb → w1.heap.size ≤ k ∧ k < w2.heap.size) := hF
  have hz2 := hB2.size
  clear hB2 hM hF hP hTo
  generalize emTx = ty at *
  go_wp2_with fail
  refine (Mch.turn (l := []) 0 0 (em_kept KM.out (World.grownBy_alloc _ _ _)) KP.out (by rw [born_nt, KQ.out]; show 0 + 1 + 9 ≤ _; omega) ⟨rfl, Nat.zero_le _, fun x hx => (by cases hx), fun _ => rfl, fun a ha => (by cases ha)⟩).mono ?_
  rintro e w3 ⟨s', g', a', c', he, ht, ho, hgo, _⟩
  have hev := KFi.out s' ht
  rw [hev] at he ho
  obtain ⟨eb, c'', hf⟩ := row_form ho (by decide)
  have hf' := hf
  injection hf' with a1 _ a2
  subst a1 a2 he
  have c0 := own_cellG ho (evT_at (l := [(1, 1, 7), (2, 1, 0)]) (k := 0) rfl).1
  have c1 := own_cellG ho (evT_at (l := [(1, 1, 7), (2, 1, 0)]) (k := 0) rfl).2.1
  have c2 := own_cellG ho (evT_at (l := [(1, 1, 7), (2, 1, 0)]) (k := 0) rfl).2.2
  have c3 := own_cellG ho (evT_at (l := [(1, 1, 7), (2, 1, 0)]) (k := 1) rfl).1
  have c4 := own_cellG ho (evT_at (l := [(1, 1, 7), (2, 1, 0)]) (k := 1) rfl).2.1
  have c5 := own_cellG ho (evT_at (l := [(1, 1, 7), (2, 1, 0)]) (k := 1) rfl).2.2
  simp only [Nat.zero_mul, Nat.one_mul, Nat.zero_add, Nat.reduceAdd] at c0 c1 c2 c3 c4 c5
  have KB3 : Hid (Below w.heap.size w w3) := Only.below' (KB2.out.alloc (by omega) _) hgo.o (fun k hk => by have := KF.out k hk; omega) (Nat.le_refl _)
  clear ho hgo ht hf hev KM KF KB1 KB2 KFi KQ KP
  go_wp2_with fail
  go_ret
  exact ⟨rfl, KB3.out⟩
end Go.Proofs.YtnjiinbhbjpfkaaGreatDoor.F
