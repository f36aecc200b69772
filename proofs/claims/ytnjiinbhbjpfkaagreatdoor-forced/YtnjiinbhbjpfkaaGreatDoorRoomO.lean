/-
  A machine's face keeps to the interface: Turn and State.
-/
import Derived.Test.YtnjiinbhbjpfkaaGreatDoorRoomN
import Derived.Test.YtnjiinbhbjpfkaaGreatDoorRoomM
import Derived.Test.YtnjiinbhbjpfkaaGreatDoorRoomF
namespace Go.Proofs.YtnjiinbhbjpfkaaGreatDoor
open Go.RowKit

theorem evL_at : ∀ (ev : List B.Ev) (i : Nat) (x : B.Ev), ev[i]? = some x → (evL ev)[i * 3]? = some (.int .i64 (x.1 : Int)) ∧ (evL ev)[i * 3 + 1]? = some (.int .i64 1) ∧ (evL ev)[i * 3 + 2]? = some (.int .i64 x.2)
  | [], _, _, h => by simp at h
  | y :: l, 0, x, h => by
    simp at h; subst h
    exact ⟨rfl, rfl, rfl⟩
  | y :: l, i + 1, x, h => by
    have h' : l[i]? = some x := by simpa using h
    obtain ⟨a, b, c⟩ := evL_at l i x h'
    have e : evL (y :: l) = [.int .i64 (y.1 : Int), .int .i64 1, .int .i64 y.2] ++ evL l := rfl
    rw [e]
    refine ⟨?_, ?_, ?_⟩
    · rw [List.getElem?_append_right (by simp; omega)]
      rw [← a]; congr 1
      simp; omega
    · rw [List.getElem?_append_right (by simp; omega)]
      rw [← b]; congr 1
      simp; omega
    · rw [List.getElem?_append_right (by simp; omega)]
      rw [← c]; congr 1
      simp; omega
theorem evL_len (ev : List B.Ev) : (evL ev).length = ev.length * 3 := by
  induction ev with
  | nil => rfl
  | cons y l ih =>
    have e : evL (y :: l) = [.int .i64 (y.1 : Int), .int .i64 1, .int .i64 y.2] ++ evL l := rfl
    rw [e, List.length_append, ih]
    simp; omega
theorem evs_of {w : World} {bs ne cap : Nat} {ad : Option Addr} {ev : List B.Ev} (h : w.ownsRow bs 48 3 (.slice ad ne cap) ne (evL ev)) : Evs w ad ne ev ∧ ne ≤ maxLen := by
  have hl : ne = ev.length := by have := h.1; rw [evL_len] at this; omega
  rcases h.2 with ⟨h1, h2⟩ | ⟨g, c, cur, h1, h2, h3, h4, h5, h6, h7⟩
  · refine ⟨⟨hl, fun hne => ?_⟩, by rw [h2]; exact Nat.zero_le _⟩
    rw [h2] at hl
    exact absurd (List.eq_nil_of_length_eq_zero hl.symm) hne
  · injection h1 with h1 _ hc
    refine ⟨⟨hl, fun _ => ⟨g, _, _, cur, h1, h3, fun i x hx => ?_⟩⟩, by omega⟩
    obtain ⟨a, b, c⟩ := evL_at ev i x hx
    have hi := (List.getElem?_eq_some_iff.1 hx).1
    rw [← h7, List.getElem?_take, if_pos (by omega)] at a b c
    exact ⟨by simpa using a, by simpa using b, by simpa using c⟩

theorem turn_ok : TurnOk Mach := by
  rintro C nr n q mb F s w (⟨_, g, kd, vb, E, Tk, qb, cq, rfl, rfl, hck, hok, hQ, ⟨x, hB⟩, hF, hN, hFE⟩ | ⟨hr, _⟩)
  · have h0 : w.cell? ⟨mb, 0, none⟩ = some (.int .i32 0) := by simp [World.cell?, hB]
    have f0 : w.frozen? ⟨mb, 0, none⟩ = false := by simp [World.frozen?, hB]
    have h2 : w.cell? ⟨mb, 2, none⟩ = some (P0 g.eb) := by simp [World.cell?, hB]
    have lm := heap_lt hB
    have hQ1 : Que (w.setCell ⟨mb, 0, none⟩ (.int .i32 1)) g C q kd vb s E Tk qb cq := hQ.same (fun k hk => Below.heap_setCell _ _ _ _ (fun e => hN ((show k = mb from e) ▸ hk)))
    have hB1 : (w.setCell ⟨mb, 0, none⟩ (.int .i32 1)).heap[mb]? = some (.cells #[.int .i32 1, x, P0 g.eb] 105 (0, 0)) := by simp [World.setCell, Array.getElem?_modify, hB]
    have hz1 : (w.setCell ⟨mb, 0, none⟩ (.int .i32 1)).heap.size = w.heap.size := by simp [World.setCell]
    refine (turn_face mb g.eb 0 _ rfl w h0 f0 h2 (fun v w1 => Etd (w.setCell ⟨mb, 0, none⟩ (.int .i32 1)) w1 (g.tick (B.aft g.clk 0)) C q kd vb s qb cq v) ?_).mono ?_
    · refine (eturn_any 0 g C q kd vb s E Tk qb cq _ hQ1).mono ?_
      rintro e w1 ⟨v, rfl, hE⟩
      obtain ⟨s', kd', r, ev, ad, ne, cap, rfl, a1, a2, a3, a4⟩ := hE
      have hb := a2.block hB1 hN
      exact ⟨ad, ne, cap, rfl, by simp [World.cell?, hb], by simp [World.frozen?, hb], s', kd', r, ev, ad, ne, cap, rfl, a1, a2, a3, a4⟩
    · rintro e w' ⟨v, w1, rfl, ⟨s', kd1, r, ev, ad, ne, cap, rfl, a1, a2, a3, a4⟩, rfl⟩
      have hb := a2.block hB1 hN
      have hz2 := a2.size
      have hz3 : (w1.setCell ⟨mb, 0, none⟩ (.int .i32 0)).heap.size = w1.heap.size := by simp [World.setCell]
      have hB2 : Box (w1.setCell ⟨mb, 0, none⟩ (.int .i32 0)) mb g.eb := ⟨x, by simp [World.setCell, Array.getElem?_modify, hb]⟩
      have hO : Only F w (w1.setCell ⟨mb, 0, none⟩ (.int .i32 0)) :=
        only_setCell ((only_setCell (S := F) (only_refl F w) (Or.inl hF) _).trans a2 (fun k h _ => hFE k h)) (Or.inl hF) _
      obtain ⟨hev, hml⟩ := evs_of (own_of (w' := w1.setCell ⟨mb, 0, none⟩ (.int .i32 0)) a3 (fun k hk => Below.heap_setCell _ _ _ _ (by show k ≠ mb; have := (own_ty a3 k hk).1; omega)))
      have hcl : B.aft g.clk 0 = 0 := by rw [hck]; rfl
      rw [hcl] at a1 a4
      have a1' := B.runs_of (code_plain hok) _ _ _ _ _ (B.runs_two _ _ _ _ _ _ _ a1)
      rcases a4 with ⟨rfl, vb', E', Tk', hQ0, hv0⟩ | ⟨hr, E', hE, hf, h42, _⟩
      · obtain ⟨kd', hQ2, hv⟩ : ∃ kd', Que w1 (g.tick 0) C q kd' vb' s' E' Tk' qb cq ∧ Grew g.n kd vb kd' vb' (w.setCell ⟨mb, 0, none⟩ (.int .i32 1)).heap.size := ⟨_, hQ0, hv0⟩
        have hN2 : ¬ FE g qb kd' vb' mb := by
          rintro (h | h | h | h | h)
          · exact hN (Or.inl h)
          · exact hN (Or.inr (Or.inl h))
          · exact hN (Or.inr (Or.inr (Or.inl h)))
          · rcases hv mb h with x1 | x1
            · exact hN (Or.inr (Or.inr (Or.inr (Or.inl x1))))
            · omega
          · exact hN (Or.inr (Or.inr (Or.inr (Or.inr h))))
        refine ⟨fun k => k = mb ∨ FE g qb kd' vb' k, s', 0, ev, ad, ne, cap, rfl, hml, hev, hO, ?_, a1', fun _ => Or.inl ⟨rfl, g.tick 0, kd', vb', E', Tk', qb, cq, rfl, rfl, rfl, hok, hQ2.same (fun k hk => Below.heap_setCell _ _ _ _ (fun e => hN2 ((show k = mb from e) ▸ hk))), hB2, Or.inl rfl, hN2, fun k hk => Or.inr hk⟩⟩
        rintro k (rfl | h | h | h | h | h)
        · exact Or.inl hF
        · exact Or.inl (hFE k (Or.inl h))
        · exact Or.inl (hFE k (Or.inr (Or.inl h)))
        · exact Or.inl (hFE k (Or.inr (Or.inr (Or.inl h))))
        · rcases hv k h with x1 | x1
          · exact Or.inl (hFE k (Or.inr (Or.inr (Or.inr (Or.inl x1)))))
          · have := hQ2.hR.lt.2.2.2.2.2.2.2.2.2.2 k h
            exact Or.inr (by omega)
        · exact Or.inl (hFE k (Or.inr (Or.inr (Or.inr (Or.inr h)))))
      · have hme : mb ≠ g.eb := fun e => hN (Or.inl (Or.inl e))
        refine ⟨fun k => k = mb ∨ k = g.eb, s', r, ev, ad, ne, cap, rfl, hml, hev, hO, ?_, a1', fun hr3 => Or.inr ⟨by omega, g.eb, E', hE.off (fun e => hme e.symm), hf, h42, hB2, Or.inl rfl, Or.inr rfl⟩⟩
        rintro k (rfl | rfl)
        · exact Or.inl hF
        · exact Or.inl (hFE _ (Or.inl (Or.inl rfl)))
  · omega

theorem turn_off : TurnOff Mach := by
  rintro C nr n q mb F s r w hr0 (⟨hr, _⟩ | ⟨hr, eb, E, hE, hf, h42, ⟨x, hB⟩, hF, hFe⟩)
  · exact absurd hr hr0
  · have h0 : w.cell? ⟨mb, 0, none⟩ = some (.int .i32 0) := by simp [World.cell?, hB]
    have f0 : w.frozen? ⟨mb, 0, none⟩ = false := by simp [World.frozen?, hB]
    have h2 : w.cell? ⟨mb, 2, none⟩ = some (P0 eb) := by simp [World.cell?, hB]
    have hme : mb ≠ eb := fun e => by
      have := kty_full hE
      rw [← e, kty_of hB] at this
      exact absurd this (by decide)
    have hE1 := hE.off (o := 0) (v := .int .i32 1) (fun e => hme e.symm)
    have hB1 : (w.setCell ⟨mb, 0, none⟩ (.int .i32 1)).heap[mb]? = some (.cells #[.int .i32 1, x, P0 eb] 105 (0, 0)) := by simp [World.setCell, Array.getElem?_modify, hB]
    refine (turn_face mb eb 0 _ rfl w h0 f0 h2 (fun v w1 => v = .slice none 0 0 ∧ Full w1 eb 144 44 44 E ∧ Only (fun k => k = eb) (w.setCell ⟨mb, 0, none⟩ (.int .i32 1)) w1) ?_).mono ?_
    · refine (eturn_off eb r E _ hE1 hf h42 hr).mono ?_
      rintro e w1 ⟨rfl, hE2, hO2⟩
      have hb := hO2.block hB1 hme
      exact ⟨none, 0, 0, rfl, by simp [World.cell?, hb], by simp [World.frozen?, hb], rfl, hE2, hO2⟩
    · rintro e w' ⟨v, w1, rfl, ⟨rfl, hE2, hO2⟩, rfl⟩
      have hb := hO2.block hB1 hme
      refine ⟨fun k => k = mb ∨ k = eb, none, 0, rfl, ?_, ?_, Or.inr ⟨hr, eb, E, hE2.off (fun e => hme e.symm), hf, h42, ⟨x, by simp [World.setCell, Array.getElem?_modify, hb]⟩, Or.inl rfl, Or.inr rfl⟩⟩
      · exact only_setCell ((only_setCell (S := F) (only_refl F w) (Or.inl hF) _).trans hO2 (fun k h _ => by subst h; exact hFe)) (Or.inl hF) _
      · rintro k (rfl | rfl)
        · exact Or.inl hF
        · exact Or.inl hFe

theorem state_ok : StateOk Mach := by
  rintro C nr n q mb F s r w (⟨rfl, g, kd, vb, E, Tk, qb, cq, rfl, rfl, _, _, hQ, ⟨x, hB⟩, hF, hN, hFE⟩ | ⟨hr, eb, E, hE, hf, h42, ⟨x, hB⟩, hF, hFe⟩)
  · have h0 : w.cell? ⟨mb, 0, none⟩ = some (.int .i32 0) := by simp [World.cell?, hB]
    have f0 : w.frozen? ⟨mb, 0, none⟩ = false := by simp [World.frozen?, hB]
    have h2 : w.cell? ⟨mb, 2, none⟩ = some (P0 g.eb) := by simp [World.cell?, hB]
    have hQ1 : Que (w.setCell ⟨mb, 0, none⟩ (.int .i32 1)) g C q kd vb s E Tk qb cq := hQ.same (fun k hk => Below.heap_setCell _ _ _ _ (fun e => hN ((show k = mb from e) ▸ hk)))
    refine (state_face mb g.eb (if (0 : Nat) = 0 then 1 else if (0 : Nat) = 1 then 4 else 5) w h0 f0 h2 ?_).mono ?_
    · exact estate_any g.eb 0 1 g.cl 1 cq _ _ _ ((hQ1.hR.hE.cell 42 (by omega)).trans (by rw [hQ1.hR.eE.e41]; rfl)) ((hQ1.hR.hE.cell 29 (by omega)).trans (by rw [hQ1.hR.eE.e28])) (fun _ => (hQ1.hR.hE.cell 32 (by omega)).trans (by rw [hQ1.e31])) (fun _ => ⟨by omega, by omega⟩) (fun h => by omega) (by omega)
    · rintro e w' ⟨rfl, rfl⟩
      exact ⟨rfl, only_setCell (only_setCell (only_refl F w) (Or.inl hF) _) (Or.inl hF) _⟩
  · have h0 : w.cell? ⟨mb, 0, none⟩ = some (.int .i32 0) := by simp [World.cell?, hB]
    have f0 : w.frozen? ⟨mb, 0, none⟩ = false := by simp [World.frozen?, hB]
    have h2 : w.cell? ⟨mb, 2, none⟩ = some (P0 eb) := by simp [World.cell?, hB]
    have hme : mb ≠ eb := fun e => by
      have := kty_full hE
      rw [← e, kty_of hB] at this
      exact absurd this (by decide)
    have hE1 := hE.off (o := 0) (v := .int .i32 1) (fun e => hme e.symm)
    obtain ⟨a, m, c, s28, s41, hm⟩ : ∃ (a : Option Addr) (m c : Nat), E 29 = .slice a m c ∧ E 42 = .bool (decide (r = 2)) ∧ (r = 1 → m = 0) := by
      rcases hr with rfl | rfl
      · obtain ⟨⟨a, c, h⟩, h'⟩ := hf.2.1 rfl
        exact ⟨a, 0, c, h, h', fun _ => rfl⟩
      · obtain ⟨⟨a, n, c, h⟩, h'⟩ := hf.2.2 rfl
        exact ⟨a, n, c, h, h', fun h => by omega⟩
    refine (state_face mb eb (if r = 0 then 1 else if r = 1 then 4 else 5) w h0 f0 h2 ?_).mono ?_
    · exact estate_any eb r m c 0 0 a none _ ((hE1.cell 42 (by omega)).trans (by rw [s41])) ((hE1.cell 29 (by omega)).trans (by rw [s28])) (fun h => by omega) (fun h => by omega) hm (by omega)
    · rintro e w' ⟨rfl, rfl⟩
      exact ⟨rfl, only_setCell (only_setCell (only_refl F w) (Or.inl hF) _) (Or.inl hF) _⟩
end Go.Proofs.YtnjiinbhbjpfkaaGreatDoor

/-
  What lies in the memory of an engine that was made of a program of one function.
-/
namespace Go.Proofs.YtnjiinbhbjpfkaaGreatDoor
open Go.RowKit

theorem own_zero {w : World} {base size n : Nat} {e : TypeId} {v : Value} {xs : List Value} (h : w.ownsRow base e size v n xs) : w.ownsRow 0 e size v n xs := by
  rcases h with ⟨a, b | ⟨g', c', cur, b1, b2, b3⟩⟩
  · exact ⟨a, Or.inl b⟩
  · exact ⟨a, Or.inr ⟨g', c', cur, b1, Nat.zero_le _, b3⟩⟩
theorem engF_tab (fs : Value) (q wk t : Int) (b j : Nat) (h : 4 ≤ j) : engF fs q wk t b j = engF (.slice none 0 0) 0 0 0 b j := by
  obtain ⟨k, rfl⟩ : ∃ k, j = k + 4 := ⟨j - 4, by omega⟩
  unfold engF eng0
  rw [Array.getD_eq_getD_getElem?, Array.getD_eq_getD_getElem?]
  rfl

theorem born_que {w w' : World} {eb g0 nf s0 c0 r0 n q wk z : Nat} {t : Int} {C : List B.In} (hB : Born w w' eb g0 nf s0 c0 r0 n q wk t) (hb : Below w.heap.size w w') (hC : Full w s0 183 (c0 * 4) (c0 * 4) (cdP C)) (hL : C.length = c0) (hok : okCode2 r0 C) (hn : 1 ≤ n ∧ n ≤ 200) (hq : 1 ≤ q ∧ q ≤ 50) (hwk : wk ≤ 50) (hz : z ≤ s0) (_hz2 : z ≤ w.heap.size) :
    ∃ g E Tk qb cq, g.eb = eb ∧ g.nr = r0 ∧ g.n = n ∧ g.clk = 0 ∧ g.wk = wk ∧ g.sa = none ∧ Que w' g C q B.kd0 vs0 (0, fun _ => (0, 0), fun _ => []) E Tk qb cq ∧ ∀ k, FE g qb B.kd0 vs0 k → z ≤ k ∧ k < w'.heap.size := by
  subst hL
  obtain ⟨w5, sb, pb, ac, l1, l2, l3, l4, l5, hg, hA, hS, hE5, tb, kb, ck, fb, rb, lb, cl, ob, co, qb, cq, xe, xt, m1, m2, m3, m4, m5, hxe, hxt, n1, n2, n3, n4, hE, o29, o28, o31, oK, hF, Tk, hT, t0, t1, t2, t3, t6⟩ := hB
  have hk5 : ∀ (k : Nat) (cur : Array Value) (T : TypeId) (f : Nat × Nat), w5.heap[k]? = some (.cells cur T f) → T ≠ 144 → w'.heap[k]? = w5.heap[k]? := by
    intro k cur T f h1 h2
    refine hg.block _ (heap_lt h1) ?_
    intro e
    injection e with e
    have := kty_full hE5
    rw [← e, kty_of h1] at this
    exact h2 this
  have hA' : ∀ k x, (actB (ac + 1))[k]? = some x → w'.heap[ac + 1 + k]? = some (.cells #[x.1] x.2 (0, 0)) := fun k x hx => (hk5 _ _ _ _ (hA k x hx) (actB_kt2 _ k x hx).1).trans (hA k x hx)
  have hS' : Str w' sb pb eb n B.kd0 vs0 (fun _ => []) := hS.block (hk5 _ _ _ _ hS.b (by decide)) (by obtain ⟨cur, s5, _⟩ := hS.p.p; exact hk5 _ _ _ _ s5 (by decide)) (fun k hk => by
    rcases hk with ⟨p, _, _, h, _⟩ | ⟨h, _⟩
    · cases h
    · cases h)
  have hsz := hg.size
  have b28 := (own_ty o28 lb rfl)
  have b29 := (own_ty o29 ob rfl)
  have b31 := (own_ty o31 qb rfl)
  have bK := (own_ty oK kb rfl)
  have hlc : s0 < w.heap.size := hC.lt
  have hzz := hb.size
  have lF := heap_lt hF.1
  have lR := hF.2.1.lt
  have lT := hT.lt
  have lE := hE.lt
  have lx := heap_lt hxe
  have ly := heap_lt hxt
  have lS := heap_lt hS'.b
  have lP := hS'.p.p.lt
  have lA := heap_lt (hA' 31 _ rfl)
  refine ⟨{ eb := eb, tb := tb, lb := lb, cl := cl, ob := ob, co := co, xe := xe, xt := xt, kb := kb, ck := ck, fb := fb, cb := s0, rb := rb, nr := r0, sb := sb, pb := pb, n := n, ac := ac, wk := wk, clk := 0, sa := none, sc := 0 }, upd (upd (upd (upd (engF (.slice (some ⟨g0, 0, none⟩) nf nf) q wk t ac) 27 (P0 sb)) 30 (.slice (some ⟨ob, 0, none⟩) 1 co)) 29 (.slice (some ⟨lb, 0, none⟩) 1 cl)) 32 (.slice (some ⟨qb, 0, none⟩) 1 cq), Tk, qb, cq, rfl, rfl, rfl, rfl, rfl, rfl, ?_, ?_⟩
  · exact {
      hR := {
        hK := { hT := hT, t0 := t0, t1 := t1, t6 := t6, o28 := own_zero o28, o29 := own_zero o29, oK := own_zero oK, hxe := hxe, hxt := hxt, hC := hC.block (hb.block _ hlc), hA := hA' }
        hE := hE
        eE := { e1 := rfl, e2 := rfl, hwk := hwk, eA := fun j h1 h2 => by
                  rw [upd_off _ _ _ _ (by omega), upd_off _ _ _ _ (by omega), upd_off _ _ _ _ (by omega), upd_off _ _ _ _ (by omega)]
                  exact engF_tab _ _ _ _ _ _ h1
                e26 := rfl, e27 := rfl, e28 := rfl, e29 := rfl, e30 := rfl, e41 := rfl, hck := ⟨Int.le_refl 0, by show (0 : Int) ≤ 9223372036854775807; decide⟩ }
        hF := hF
        hS := hS'
        hH := B.held_none _ _
        ok := hok
        hn := hn
        hp := Nat.zero_le _
        hvr := fun k hk => by
          rcases hk with ⟨p, _, _, h, _⟩ | ⟨h, _⟩
          · cases h
          · cases h
        hro := n4 }
      t2 := t2
      t3 := t3
      e31 := rfl
      o31 := own_zero o31
      e42 := rfl
      h1 := n3
      h2 := n2
      hq := hq
      e32 := rfl
      o32 := World.ownsRow_nil _ _ _ _
      h32 := fun h => absurd rfl h
      n32 := fun k h => (by cases h) }
  · rintro k (h | h | h | (⟨p, _, _, h, _⟩ | ⟨h, _⟩) | h)
    · simp only at h
      omega
    · omega
    · simp only at h
      omega
    · cases h
    · cases h
    · cases h

theorem cd_code {nr : Nat} {C : List B.In} (h : okCode2 nr C) (j : Nat) : codeP (oneT nr C) (M.pos (oneT nr C) 0 + 2) j = cdP C j := by
  have e0 : M.pos (oneT nr C) 0 = 1 := rfl
  unfold codeP cdP
  rw [e0, one_bt h]
  rw [show 1 + 2 + j = j + 3 by omega]
  rfl
end Go.Proofs.YtnjiinbhbjpfkaaGreatDoor

/-
  The program's Load tells what 'told' says, for every text and configuration, where the variable of the operands' letters holds its table.
-/
namespace Go.Proofs.YtnjiinbhbjpfkaaGreatDoor
open Go.RowKit

def Read3 (s : ByteArray) (w w' : World) (e : Ending) (r : Nat × Bool) : Prop := ∃ (ad : Option Addr) (n c : Nat), e = .returned (.tuple #[.slice ad n c, .int .i64 (if r.2 = true then 0 else (r.1 : Int)), .bool r.2]) ∧
  (r.2 = true → n = M.bt s 0 ∧ c = n ∧ 1 ≤ n ∧ n ≤ 8 ∧ ∃ g, ad = some ⟨g, 0, none⟩ ∧ Fns w' s w.heap.size g n n)

set_option maxHeartbeats 400000 in
theorem read_any (s : ByteArray) (w : World) (hs : s.size ≤ maxLen) (hT : Tab w) :
    Calls Tryz.prog 37 #[.string s] w fun e w' => Read3 s w w' e (M.prg s) ∧ Below w.heap.size w w' := by
  have hn : w.heap.size ≠ 0 := by have := hT.1; omega
  have HS : Hid (s.size ≤ maxLen) := hs
  have KT0 : Hid (Tab w) := hT
  clear hs hT
  go_enter Tryz.func37, Tryz.ntmps37
  go_wp2_with fail
  refine (program_any w.heap.size s 0 0 0 (w.alloc (.cells #[.string s, .int .i64 0, .int .i64 0, .int .i64 0, .int .i64 0] 128)) (heap_alloc_new w _) HS.out hn (KT0.out.alloc _)).mono ?_
  rintro e w1 ⟨⟨ad, n, c, rfl, hA⟩, f', r', l', hh, hg⟩
  have HA : Hid ((M.prg s).2 = true → n = M.bt s 0 ∧ c = n ∧ 1 ≤ n ∧ n ≤ 8 ∧ ∃ g, ad = some ⟨g, 0, none⟩ ∧ Fns w1 s w.heap.size g n n) := fun h => by
    obtain ⟨a1, a2, a3, a4, g, a5, a6, a7⟩ := hA h
    exact ⟨a1, a2, a3, a4, g, a5, by have := a6; simp at this; omega, a7⟩
  clear hA
  have hB := below_of_grown hg
  obtain ⟨x0, x1, _, _, _⟩ := rdA_cells hh
  clear hh hg
  generalize hR : M.prg s = R at *
  have HR : Hid (M.prg s = R) := hR
  clear hR
  obtain ⟨P, ok⟩ := R
  cases ok
  · go_wp2_with fail
    go_quiet (fail)
    go_wp2_with fail
    go_ret3
    exact ⟨by rw [HR.out]; exact ⟨_, _, _, rfl, fun h => by cases h⟩, below_drewN hB _⟩
  · go_wp2_with fail
    go_ret3
    exact ⟨by rw [HR.out]; exact ⟨_, _, _, rfl, fun _ => HA.out trivial⟩, hB⟩

def inB (n m : Int) : Bool := decide (1 ≤ n ∧ n ≤ m)

theorem within_any (n m : Int) (w : World) : Calls Tryz.prog 55 #[.int .i64 n, .int .i64 m] w fun e w' => e = .returned (.bool (inB n m)) ∧ w' = w := by
  by_cases h1 : 1 ≤ n
  · by_cases h2 : n ≤ m
    · have e : inB n m = true := by simp [inB]; omega
      rw [e]; clear e
      go_enter Tryz.func55, Tryz.ntmps55
      go_wp2
      go_ret
      exact ⟨rfl, rfl⟩
    · have e : inB n m = false := by simp [inB]; omega
      rw [e]; clear e
      have h3 : decide (n ≤ m) = false := by simpa using h2
      go_enter Tryz.func55, Tryz.ntmps55
      go_wp2
      go_ret
      exact ⟨rfl, rfl⟩
  · have e : inB n m = false := by simp [inB]; omega
    rw [e]; clear e
    have h3 : decide (1 ≤ n) = false := by simpa using h1
    go_enter Tryz.func55, Tryz.ntmps55
    go_wp2
    go_ret
    exact ⟨rfl, rfl⟩

def okC (c0 c1 c2 c3 : Int) : Bool := inB c0 200 && (inB c1 50 && (inB c2 50 && inB c3 16))

theorem maybe_any (c0 c1 c2 c3 : Int) (w : World) : Calls Tryz.prog 36 #[.agg #[.int .i64 c0, .int .i64 c1, .int .i64 c2, .int .i64 c3]] w fun e w' => e = .returned (.bool (okC c0 c1 c2 c3)) ∧ Below w.heap.size w w' := by
  unfold okC
  cases h0 : inB c0 200
  · have H0 : Hid (inB c0 200 = false) := h0
    clear h0
    go_enter Tryz.func36, Tryz.ntmps36
    go_wp2_with fail
    refine (within_any _ _ _).mono ?_
    rintro e w1 ⟨rfl, rfl⟩
    rw [H0.out]
    go_wp2_with fail
    go_ret
    exact ⟨rfl, (Below.refl _ _).alloc (Nat.le_refl _) _⟩
  · cases h1 : inB c1 50
    · have H0 : Hid (inB c0 200 = true) := h0
      have H1 : Hid (inB c1 50 = false) := h1
      clear h0 h1
      go_enter Tryz.func36, Tryz.ntmps36
      go_wp2_with fail
      refine (within_any _ _ _).mono ?_
      rintro e w1 ⟨rfl, rfl⟩
      rw [H0.out]
      go_wp2_with fail
      refine (within_any _ _ _).mono ?_
      rintro e w1 ⟨rfl, rfl⟩
      rw [H1.out]
      go_wp2_with fail
      go_ret
      exact ⟨rfl, (Below.refl _ _).alloc (Nat.le_refl _) _⟩
    · cases h2 : inB c2 50
      · have H0 : Hid (inB c0 200 = true) := h0
        have H1 : Hid (inB c1 50 = true) := h1
        have H2 : Hid (inB c2 50 = false) := h2
        clear h0 h1 h2
        go_enter Tryz.func36, Tryz.ntmps36
        go_wp2_with fail
        refine (within_any _ _ _).mono ?_
        rintro e w1 ⟨rfl, rfl⟩
        rw [H0.out]
        go_wp2_with fail
        refine (within_any _ _ _).mono ?_
        rintro e w1 ⟨rfl, rfl⟩
        rw [H1.out]
        go_wp2_with fail
        refine (within_any _ _ _).mono ?_
        rintro e w1 ⟨rfl, rfl⟩
        rw [H2.out]
        go_wp2_with fail
        go_ret
        exact ⟨rfl, (Below.refl _ _).alloc (Nat.le_refl _) _⟩
      · have H0 : Hid (inB c0 200 = true) := h0
        have H1 : Hid (inB c1 50 = true) := h1
        have H2 : Hid (inB c2 50 = true) := h2
        clear h0 h1 h2
        generalize hx : inB c3 16 = x
        have H3 : Hid (inB c3 16 = x) := hx
        clear hx
        go_enter Tryz.func36, Tryz.ntmps36
        go_wp2_with fail
        refine (within_any _ _ _).mono ?_
        rintro e w1 ⟨rfl, rfl⟩
        rw [H0.out]
        go_wp2_with fail
        refine (within_any _ _ _).mono ?_
        rintro e w1 ⟨rfl, rfl⟩
        rw [H1.out]
        go_wp2_with fail
        refine (within_any _ _ _).mono ?_
        rintro e w1 ⟨rfl, rfl⟩
        rw [H2.out]
        go_wp2_with fail
        refine (within_any _ _ _).mono ?_
        rintro e w1 ⟨rfl, rfl⟩
        rw [H3.out]
        go_wp2_with fail
        go_ret
        exact ⟨by simp, (Below.refl _ _).alloc (Nat.le_refl _) _⟩

/-- What a Load tells: the fault's number, its place; is there a machine? -/
def told (s : ByteArray) (c0 c1 c2 c3 : Int) : Int × Int × Bool :=
  if okC c0 c1 c2 c3 = true then (if (M.prg s).2 = true then (0, 0, true) else (2, ((M.prg s).1 : Int), false)) else (1, 0, false)

def ptrIs (v : Value) (there : Bool) : Prop := (there = true ∧ ∃ a, v = .pointer (some a)) ∨ (there = false ∧ v = .pointer none)

def Load2 (e : Ending) (t : Int × Int × Bool) : Prop := ∃ v, ptrIs v t.2.2 ∧ e = .returned (.tuple #[v, .agg #[.int .i64 t.1, .int .i64 t.2.1]])

set_option maxHeartbeats 400000 in
theorem loadA_any (s : ByteArray) (c0 c1 c2 c3 : Int) (w : World) (hs : s.size ≤ maxLen) (hT : Tab w) :
    Calls Tryz.prog 23 #[.string s, .agg #[.int .i64 c0, .int .i64 c1, .int .i64 c2, .int .i64 c3]] w fun e w' => Load2 e (told s c0 c1 c2 c3) ∧ Below w.heap.size w w' := by
  have HS : Hid (s.size ≤ maxLen) := hs
  have KT0 : Hid (Tab w) := hT
  clear hs hT
  go_enter Tryz.func23, Tryz.ntmps23
  go_wp2_with fail
  refine (maybe_any _ _ _ _ _).mono ?_
  rintro e w1 ⟨rfl, hB⟩
  obtain ⟨hc, hf⟩ := bcell hB
  have hz := hB.size
  simp at hz
  have hB1 : Below w.heap.size w w1 := (((Below.refl _ _).alloc (Nat.le_refl _) _).alloc (by simp) _).trans (hB.mono (by simp; omega))
  have KB1 : Hid (Below w.heap.size w w1) := hB1
  clear hB hB1
  cases hok : okC c0 c1 c2 c3
  · have HOK : Hid (okC c0 c1 c2 c3 = false) := hok
    clear hok
    go_wp2_with fail
    refine bodyPost_ret (v := .tuple #[.pointer none, .agg #[.int .i64 1, .int .i64 0]]) (by simp [results, Tryz.results23, go_sem, *]) rfl ⟨?_, ?_⟩
    · have e : told s c0 c1 c2 c3 = (1, 0, false) := by unfold told; rw [if_neg (by rw [HOK.out]; simp)]
      rw [e]; exact ⟨_, Or.inr ⟨rfl, rfl⟩, rfl⟩
    · repeat (refine Below.setCell ?_ (by simp) _)
      exact KB1.out
  · have HOK : Hid (okC c0 c1 c2 c3 = true) := hok
    clear hok
    go_wp2_with fail
    refine (read_any s _ HS.out (KT0.out.below KB1.out)).mono ?_
    rintro e w2 ⟨⟨ad, n, c, rfl, hA⟩, hB2⟩
    have HA : Hid ((M.prg s).2 = true → n = M.bt s 0 ∧ c = n ∧ 1 ≤ n ∧ n ≤ 8 ∧ ∃ g, ad = some ⟨g, 0, none⟩ ∧ Fns w2 s w1.heap.size g n n) := hA
    clear hA
    have hz2 := hB2.size
    have l0 : w.heap.size < w1.heap.size := by omega
    have l1 : w.heap.size + 1 < w1.heap.size := by omega
    obtain ⟨hc2, hf2⟩ := bcell hB2
    have d0 : w2.cell? ⟨w.heap.size + 1, 0, none⟩ = some (.int .i64 0) := by rw [hc2 _ _ l1, hc _ _ (by simp)]; simp
    have d1 : w2.cell? ⟨w.heap.size + 1, 1, none⟩ = some (.int .i64 0) := by rw [hc2 _ _ l1, hc _ _ (by simp)]; simp
    have e0 : w2.frozen? ⟨w.heap.size + 1, 0, none⟩ = false := by rw [hf2 _ _ l1, hf _ _ (by simp)]; simp
    have e1 : w2.frozen? ⟨w.heap.size + 1, 1, none⟩ = false := by rw [hf2 _ _ l1, hf _ _ (by simp)]; simp
    have g0 : w2.cell? ⟨w.heap.size, 0, none⟩ = some (.int .i64 c0) := by rw [hc2 _ _ l0, hc _ _ (by simp; omega)]; simp
    have g1 : w2.cell? ⟨w.heap.size, 1, none⟩ = some (.int .i64 c1) := by rw [hc2 _ _ l0, hc _ _ (by simp; omega)]; simp
    have g2 : w2.cell? ⟨w.heap.size, 2, none⟩ = some (.int .i64 c2) := by rw [hc2 _ _ l0, hc _ _ (by simp; omega)]; simp
    have g3 : w2.cell? ⟨w.heap.size, 3, none⟩ = some (.int .i64 c3) := by rw [hc2 _ _ l0, hc _ _ (by simp; omega)]; simp
    have l2 : w.heap.size + 1 < w2.heap.size := by omega
    have l3 : w.heap.size < w2.heap.size := by omega
    have KB2 : Hid (Below w.heap.size w w2) := KB1.out.trans (hB2.mono KB1.out.size)
    clear hB2 KB1 hc hf hc2 hf2 hz hz2 l0 l1
    generalize hR : M.prg s = R at *
    have HR : Hid (M.prg s = R) := hR
    clear hR
    obtain ⟨P, ok⟩ := R
    cases ok
    · go_wp2_with fail
      refine bodyPost_ret (v := .tuple #[.pointer none, .agg #[.int .i64 2, .int .i64 P]]) (by simp [results, Tryz.results23, go_sem, d0, d1]) rfl ⟨?_, ?_⟩
      · have e : told s c0 c1 c2 c3 = (2, (P : Int), false) := by unfold told; rw [if_pos HOK.out, HR.out]; rfl
        rw [e]; exact ⟨_, Or.inr ⟨rfl, rfl⟩, rfl⟩
      · repeat (refine Below.setCell ?_ (by simp) _)
        exact KB2.out
    · obtain ⟨hA1, hA2, hA3, hA4, g, hA5, hA6⟩ := HA.out rfl
      subst hA2 hA5
      obtain ⟨hg1, gs, hg2, hg3⟩ := hA6
      obtain ⟨k1, k2, k3, k4, k5, k6⟩ := hg3 0 (by omega)
      have q0 := hg2.cell 0 (by omega)
      have q1 := hg2.cell 1 (by omega)
      have q2 := hg2.lt
      clear HA hg2 hg3 k6 hA1
      simp only [fnsP, Nat.zero_mod, if_pos, show ¬ (1 % 2 = 0) by omega, if_neg, not_false_eq_true, show 1 / 2 = 0 by omega] at q0 q1
      generalize M.bt s (M.pos s 0) = r0 at *
      generalize M.bt s (M.pos s 0 + 1) = m0 at *
      generalize gs 0 = s0 at *
      have hcl : 1 ≤ c0 ∧ c0 ≤ 200 := by have := HOK.out; simp [okC, inB] at this; omega
      obtain ⟨cl, rfl⟩ : ∃ cl : Nat, c0 = (cl : Int) := ⟨c0.toNat, by omega⟩
      go_wp2_with fail
      refine (engNew_any g c s0 m0 r0 c1 c2 c3 cl w2 q0 q1 q2 hA3 k2 k3 (by omega) (by omega)).mono ?_
      rintro e w3 ⟨eb, rfl, hB3, _⟩
      have hz3 := hB3.size
      have KB3 : Hid (Below w.heap.size w w3) := KB2.out.trans (hB3.mono (by omega))
      rw [← hB3.cell (p := ⟨w.heap.size + 1, 0, none⟩) l2] at d0
      rw [← hB3.cell (p := ⟨w.heap.size + 1, 1, none⟩) l2] at d1
      rw [← hB3.frozen (p := ⟨w.heap.size + 1, 0, none⟩) l2] at e0
      rw [← hB3.frozen (p := ⟨w.heap.size + 1, 1, none⟩) l2] at e1
      have l4 : w.heap.size + 1 < w3.heap.size := by omega
      clear hB3 q0 q1 g0 g1 g2 g3 KB2
      go_wp2_with fail
      refine bodyPost_ret (v := .tuple #[.pointer (some ⟨w3.heap.size, 0, none⟩), .agg #[.int .i64 0, .int .i64 0]]) (by simp [results, Tryz.results23, go_sem, d0, d1, l4]) rfl ⟨?_, ?_⟩
      · have e : told s cl c1 c2 c3 = (0, 0, true) := by unfold told; rw [if_pos HOK.out, HR.out]; rfl
        rw [e]; exact ⟨_, Or.inl ⟨rfl, _, rfl⟩, rfl⟩
      · repeat (first | exact KB3.out | refine Below.setCell ?_ (by simp) _ | refine Below.alloc ?_ (by simp [World.setCell]; omega) _)

end Go.Proofs.YtnjiinbhbjpfkaaGreatDoor

/-
  Load keeps to the interface; so all of it stands.
-/
namespace Go.Proofs.YtnjiinbhbjpfkaaGreatDoor
open Go.RowKit

set_option maxRecDepth 100000 in
set_option maxHeartbeats 1000000 in
theorem load_que (C : List B.In) (nr n q wk : Nat) (w : World) (hok : okCode2 nr C) (hn1 : 1 ≤ n) (hn2 : n ≤ 200) (hq1 : 1 ≤ q) (hq2 : q ≤ 50) (hk1 : 1 ≤ wk) (hk2 : wk ≤ 50) (hT : Tab w) :
    Calls Tryz.prog 23 #[.string (txt (1 :: nr :: C.length :: flat C)), .agg #[.int .i64 n, .int .i64 q, .int .i64 wk, .int .i64 1]] w fun e w' =>
      ∃ (mb : Nat) (F : Nat → Prop), e = .returned (.tuple #[P0 mb, .agg #[.int .i64 0, .int .i64 0]]) ∧ Below w.heap.size w w' ∧ (∀ k, F k → w.heap.size ≤ k ∧ k < w'.heap.size) ∧ ∃ g kd vb E Tk qb cq, g.nr = nr ∧ g.n = n ∧ g.clk = 0 ∧ g.wk = wk ∧ kd = B.kd0 ∧ Que w' g C q kd vb (0, fun _ => (0, 0), fun _ => []) E Tk qb cq ∧ Box w' mb g.eb ∧ F mb ∧ ¬ FE g qb kd vb mb ∧ ∀ k, FE g qb kd vb k → F k := by
  have HC : Hid (okC n q wk 1 = true) := by show okC n q wk 1 = true; simp [okC, inB]; omega
  have HP : Hid (M.prg (oneT nr C) = (3 + 4 * C.length, true)) := one_prg hok
  have HS : Hid ((oneT nr C).size ≤ maxLen) := by show _ ≤ _; rw [one_size]; have := hok.2.2.2.1; unfold maxLen; omega
  have HK : Hid (okCode2 nr C) := hok
  have KT0 : Hid (Tab w) := hT
  have HB := hid (And.intro hn1 (And.intro hn2 (And.intro hq1 hq2)))
  have HWK : Hid (wk ≤ 50) := hk2
  have HCD := hid (cd_code hok)
  have HB1 : Hid (M.bt (oneT nr C) (M.pos (oneT nr C) 0) = nr) := by show _ = _; rw [show M.pos (oneT nr C) 0 = 1 from rfl, one_bt hok]; rfl
  have HB2 : Hid (M.bt (oneT nr C) (M.pos (oneT nr C) 0 + 1) = C.length) := by show _ = _; rw [show M.pos (oneT nr C) 0 = 1 from rfl, one_bt hok]; rfl
  generalize hs : oneT nr C = s at *
  have hs' : txt (1 :: nr :: C.length :: flat C) = s := hs
  rw [hs']
  clear hs hs' hok hT hn1 hn2 hq1 hq2 hk1 hk2
  go_enter Tryz.func23, Tryz.ntmps23
  go_wp2_with fail
  refine (maybe_any _ _ _ _ _).mono ?_
  rintro e w1 ⟨rfl, hB⟩
  rw [HC.out]
  obtain ⟨hc, hf⟩ := bcell hB
  have hz := hB.size
  simp at hz
  have hB1 : Below w.heap.size w w1 := (((Below.refl _ _).alloc (Nat.le_refl _) _).alloc (by simp) _).trans (hB.mono (by simp; omega))
  have KB1 : Hid (Below w.heap.size w w1) := hB1
  have HZ1 : Hid (w.heap.size + 2 ≤ w1.heap.size) := hz
  clear hB hB1
  go_wp2_with fail
  refine (read_any s _ HS.out (KT0.out.below KB1.out)).mono ?_
  rintro e w2 ⟨⟨ad, m, c, rfl, hA⟩, hB2⟩
  rw [HP.out] at hA
  rw [HP.out]
  obtain ⟨hA1, hA2, hA3, hA4, g, hA5, hA6⟩ := hA rfl
  clear hA
  subst hA2 hA5
  have hz2 := hB2.size
  have l0 : w.heap.size < w1.heap.size := by omega
  have l1 : w.heap.size + 1 < w1.heap.size := by omega
  obtain ⟨hc2, hf2⟩ := bcell hB2
  have d0 : w2.cell? ⟨w.heap.size + 1, 0, none⟩ = some (.int .i64 0) := by rw [hc2 _ _ l1, hc _ _ (by simp)]; simp
  have d1 : w2.cell? ⟨w.heap.size + 1, 1, none⟩ = some (.int .i64 0) := by rw [hc2 _ _ l1, hc _ _ (by simp)]; simp
  have e0 : w2.frozen? ⟨w.heap.size + 1, 0, none⟩ = false := by rw [hf2 _ _ l1, hf _ _ (by simp)]; simp
  have e1 : w2.frozen? ⟨w.heap.size + 1, 1, none⟩ = false := by rw [hf2 _ _ l1, hf _ _ (by simp)]; simp
  have g0 : w2.cell? ⟨w.heap.size, 0, none⟩ = some (.int .i64 n) := by rw [hc2 _ _ l0, hc _ _ (by simp; omega)]; simp
  have g1 : w2.cell? ⟨w.heap.size, 1, none⟩ = some (.int .i64 q) := by rw [hc2 _ _ l0, hc _ _ (by simp; omega)]; simp
  have g2 : w2.cell? ⟨w.heap.size, 2, none⟩ = some (.int .i64 wk) := by rw [hc2 _ _ l0, hc _ _ (by simp; omega)]; simp
  have g3 : w2.cell? ⟨w.heap.size, 3, none⟩ = some (.int .i64 1) := by rw [hc2 _ _ l0, hc _ _ (by simp; omega)]; simp
  have l2 : w.heap.size + 1 < w2.heap.size := by omega
  have l3 : w.heap.size < w2.heap.size := by omega
  have HZ2 : Hid (w1.heap.size ≤ w2.heap.size) := hz2
  have KB2 : Hid (Below w.heap.size w w2) := KB1.out.trans (hB2.mono KB1.out.size)
  clear hB2 hc hf hc2 hf2 hz hz2 l0 l1
  obtain ⟨hg1, gs, hg2, hg3⟩ := hA6
  obtain ⟨k1, k2, k3, k4, k5, k6⟩ := hg3 0 (by omega)
  have q0 := hg2.cell 0 (by omega)
  have q1 := hg2.cell 1 (by omega)
  have q2 := hg2.lt
  clear hg2 hg3 hA1
  simp only [fnsP, Nat.zero_mod, if_pos, show ¬ (1 % 2 = 0) by omega, if_neg, not_false_eq_true, show 1 / 2 = 0 by omega] at q0 q1
  rw [HB1.out] at q0 k2 k3
  rw [HB2.out] at q1 k4 k5 k6
  generalize gs 0 = s0 at *
  have hcd : Full w2 s0 183 (C.length * 4) (C.length * 4) (cdP C) := k6.congr (fun j _ => HCD.out j)
  have KCD := hid hcd
  have HG : Hid (w1.heap.size ≤ s0) := by show _ ≤ _; omega
  clear k6 hcd
  go_wp2_with fail
  refine (engNew_any g c s0 C.length nr q wk 1 n w2 q0 q1 q2 hA3 k2 k3 HB.out.1 HB.out.2.1).mono ?_
  rintro e w3 ⟨eb, rfl, hB3, hBo⟩
  have hz3 := hB3.size
  obtain ⟨G, E, Tk, qb, cq, rfl, rfl, rfl, hck, hwk, _, hQ, hFE⟩ := born_que (z := w1.heap.size) hBo hB3 KCD.out rfl HK.out ⟨HB.out.1, HB.out.2.1⟩ HB.out.2.2 HWK.out HG.out HZ2.out
  have KB3 : Hid (Below w.heap.size w w3) := KB2.out.trans (hB3.mono (by omega))
  rw [← hB3.cell (p := ⟨w.heap.size + 1, 0, none⟩) l2] at d0
  rw [← hB3.cell (p := ⟨w.heap.size + 1, 1, none⟩) l2] at d1
  rw [← hB3.frozen (p := ⟨w.heap.size + 1, 0, none⟩) l2] at e0
  rw [← hB3.frozen (p := ⟨w.heap.size + 1, 1, none⟩) l2] at e1
  have l4 : w.heap.size + 1 < w3.heap.size := by omega
  have KQ := hid hQ
  have HCK := hid (And.intro hck hwk)
  have KF := hid hFE
  clear hB3 q0 q1 g0 g1 g2 g3 KB2 hBo hQ hFE hck hwk
  go_wp2_with fail
  refine bodyPost_ret (v := .tuple #[.pointer (some ⟨w3.heap.size, 0, none⟩), .agg #[.int .i64 0, .int .i64 0]]) (by simp [results, Tryz.results23, go_sem, d0, d1, l4]) rfl ?_
  have hzA : ((w3.setCell ⟨w.heap.size + 1, 0, none⟩ (.int .i64 0)).setCell ⟨w.heap.size + 1, 1, none⟩ (.int .i64 0)).heap.size = w3.heap.size := by simp [World.setCell]
  have hN : ¬ FE G qb B.kd0 vs0 w3.heap.size := fun h => by have := (KF.out _ h).2; omega
  refine ⟨w3.heap.size, fun k => k = w3.heap.size ∨ FE G qb B.kd0 vs0 k, rfl, ?_, ?_, G, B.kd0, vs0, E, Tk, qb, cq, rfl, rfl, HCK.out.1, HCK.out.2, rfl, KQ.out.same (fun k hk => ?_), ⟨.int .u32 0, ?_⟩, Or.inl rfl, hN, fun k hk => Or.inr hk⟩
  · repeat (first | exact KB3.out | refine Below.setCell ?_ (by simp) _ | refine Below.alloc ?_ (by simp [World.setCell]; omega) _)
  · rintro k (rfl | h)
    · refine ⟨by omega, ?_⟩
      simp [World.setCell]
    · have := KF.out k h
      have := HZ1.out
      refine ⟨by omega, ?_⟩
      simp [World.setCell]; omega
  · have h1 := KF.out k hk
    have h2 := HZ1.out
    rw [Below.heap_alloc _ _ _ (by rw [hzA]; omega), Below.heap_setCell _ _ _ _ (by show k ≠ w.heap.size + 1; omega), Below.heap_setCell _ _ _ _ (by show k ≠ w.heap.size + 1; omega)]
  · have h1 := heap_alloc_new ((w3.setCell ⟨w.heap.size + 1, 0, none⟩ (.int .i64 0)).setCell ⟨w.heap.size + 1, 1, none⟩ (.int .i64 0)) (.cells #[.int .i32 0, .int .u32 0, P0 G.eb] 105)
    rw [hzA] at h1
    exact h1

theorem load_ok : LoadOk Tab Mach := by
  intro C nr n q wk w hok hn1 hn2 hq1 hq2 hk1 hk2 hT
  refine (load_que C nr n q wk w (code_two hok) hn1 hn2 hq1 hq2 hk1 hk2 hT).mono ?_
  rintro e w' ⟨mb, F, he, hB, hF, g, kd, vb, E, Tk, qb, cq, h1, h2, h3, _, _, h4⟩
  exact ⟨mb, F, he, hB, hF, Or.inl ⟨rfl, g, kd, vb, E, Tk, qb, cq, h1, h2, h3, hok, h4⟩⟩

/-- The machine keeps to the interface. -/
theorem iface : Iface Tab Mach := ⟨load_ok, turn_ok, turn_off, state_ok, keep_ok, good_ok⟩
end Go.Proofs.YtnjiinbhbjpfkaaGreatDoor
