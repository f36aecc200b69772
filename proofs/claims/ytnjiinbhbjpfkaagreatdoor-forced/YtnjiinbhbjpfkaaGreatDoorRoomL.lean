/-
  What each instruction of the table leaves of a machine of one task.
-/
import Derived.Test.YtnjiinbhbjpfkaaGreatDoorRoomJ
import Derived.Test.YtnjiinbhbjpfkaaGreatDoorRoomK
namespace Go.Proofs.YtnjiinbhbjpfkaaGreatDoor
open Go.RowKit

section
variable {w w' : World} {g : Geo} {C : List B.In} {q : Nat} {kd : B.Kd} {vb : Vs} {s : B.St} {E Tk : Nat → Value} {bs qb cq : Nat} {ad : Option Addr} {ne cap : Nat} {ev : List B.Ev}

theorem ite_yes {p a b : Prop} [Decidable p] (h : p) (ha : a) : if p then a else b := by rw [if_pos h]; exact ha
theorem ite_no {p a b : Prop} [Decidable p] (h : ¬ p) (hb : b) : if p then a else b := by rw [if_neg h]; exact hb
theorem Kon.box (h : Kon w g C Tk) (k : Nat) (x : Value × TypeId) (hx : (actB (g.ac + 1))[k]? = some x) : w.cell? ⟨g.ac + 1 + k, 0, none⟩ = some x.1 ∧ g.ac + 1 + k < w.heap.size := by
  have := h.hA k x hx
  exact ⟨by simp [World.cell?, this], heap_lt this⟩

theorem after_regs {R : Nat → B.V} (hR : Run w g C q kd vb (s.1 + 1, s.2.1, s.2.2) E Tk) (hm : Mid w g E Tk bs qb cq ad ne cap ev) (hg : w.grownBy w' (some g.rb)) (hF : Fr w' g.fb g.cb C.length (s.1 + 1) g.rb g.nr (Fv 120 #[P0 g.xe, P0 g.xt]) R) (hH : B.Held kd g.nr g.n (s.1 + 1, R, s.2.2)) :
    After w w' g C q kd vb Tk bs qb cq ad ne cap ev (s.1 + 1, R, s.2.2) kd 0 [] := by
  refine ⟨only_grown hg (by unfold Wr; omega), Or.inl ⟨rfl, vb, E, ad, ne, cap, hR.regs hg hF hH, ?_, by omega, Grew.refl _ _ _ _⟩⟩
  rw [List.append_nil]; exact hm.rb hR hg
theorem after_next {y : Nat} (hR : Run w g C q kd vb (s.1 + 1, s.2.1, s.2.2) E Tk) (hm : Mid w g E Tk bs qb cq ad ne cap ev) (hg : w.grownBy w' (some g.fb)) (hF : Fr w' g.fb g.cb C.length y g.rb g.nr (Fv 120 #[P0 g.xe, P0 g.xt]) s.2.1) (hy : y ≤ C.length) :
    After w w' g C q kd vb Tk bs qb cq ad ne cap ev (y, s.2.1, s.2.2) kd 0 [] := by
  refine ⟨only_grown hg (by unfold Wr; omega), Or.inl ⟨rfl, vb, E, ad, ne, cap, hR.next hg hF hy, ?_, by omega, Grew.refl _ _ _ _⟩⟩
  rw [List.append_nil]; exact hm.fb hR hg

theorem do0 (a b c : Nat) (hR : Run w g C q kd vb (s.1 + 1, s.2.1, s.2.2) E Tk) (hm : Mid w g E Tk bs qb cq ad ne cap ev) (hi : okIn g.nr C.length (0, a, b, c) = true) :
    Calls Tryz.prog 163 #[stepV 0 a b c g.fb g.tb g.eb, P0 (g.ac + 2)] w fun e w' => ∃ why : Nat, e = .returned (.int .i64 why) ∧ Acted w w' g C q kd vb Tk bs qb cq ad ne cap ev s (0, a, b, c) why := by
  have hi' : a < g.nr ∧ b ≤ 255 ∧ c ≤ 255 := by simpa [okIn] using hi
  obtain ⟨b1, l1⟩ := hR.hK.box 1 _ rfl
  obtain ⟨b0, l0⟩ := hR.hK.box 0 _ rfl
  refine (act0_any 0 a b c g.fb g.tb g.eb g.cb C.length (s.1 + 1) g.rb g.nr (g.ac + 2) (g.ac + 1) _ s.2.1 (by omega) (by omega) hi'.1 w hR.hF l1 b1 b0 l0).mono ?_
  rintro e w' ⟨rfl, hg, hF⟩
  exact ⟨0, rfl, Or.inl ⟨rfl, _, kd, 0, [], ⟨rfl, rfl, rfl⟩, fun _ => rfl, after_regs hR hm hg hF (B.held_num hR.hH _ _ _)⟩⟩

theorem do1 (a b c : Nat) (hR : Run w g C q kd vb (s.1 + 1, s.2.1, s.2.2) E Tk) (hm : Mid w g E Tk bs qb cq ad ne cap ev) (hi : okIn g.nr C.length (1, a, b, c) = true) :
    Calls Tryz.prog 163 #[stepV 1 a b c g.fb g.tb g.eb, P0 (g.ac + 4)] w fun e w' => ∃ why : Nat, e = .returned (.int .i64 why) ∧ Acted w w' g C q kd vb Tk bs qb cq ad ne cap ev s (1, a, b, c) why := by
  have hi' : a < g.nr ∧ b < g.nr ∧ c = 0 := by simpa [okIn] using hi
  obtain ⟨b1, l1⟩ := hR.hK.box 3 _ rfl
  obtain ⟨b0, l0⟩ := hR.hK.box 2 _ rfl
  refine (actg79_any 1 a b c g.fb g.tb g.eb g.cb C.length (s.1 + 1) g.rb g.nr (g.ac + 4) (g.ac + 3) _ s.2.1 (s.2.1 b) hi'.1 w hR.hF b1 b0 l1 l0 (fun w1 hg => b_any 1 a b c g.fb g.tb g.eb g.cb C.length (s.1 + 1) g.rb g.nr _ s.2.1 w1 (hR.hF.kept hg).1 (hR.hF.kept hg).2.1 hi'.2.1)).mono ?_
  rintro e w' ⟨rfl, hg, hF⟩
  exact ⟨0, rfl, Or.inl ⟨rfl, _, kd, 0, [], ⟨rfl, rfl, rfl⟩, fun _ => rfl, after_regs hR hm hg hF (B.held_set hR.hH _ _ _ (hR.hH.h1 b hi'.2.1) (fun h0 => B.reach_reg b hi'.2.1 h0))⟩⟩

theorem do3 (a b c : Nat) (hR : Run w g C q kd vb (s.1 + 1, s.2.1, s.2.2) E Tk) (hm : Mid w g E Tk bs qb cq ad ne cap ev) (hi : okIn g.nr C.length (3, a, b, c) = true) :
    Calls Tryz.prog 151 #[stepV 3 a b c g.fb g.tb g.eb, P0 (g.ac + 6)] w fun e w' => ∃ why : Nat, e = .returned (.int .i64 why) ∧ Acted w w' g C q kd vb Tk bs qb cq ad ne cap ev s (3, a, b, c) why := by
  have hi' : a < g.nr ∧ b < g.nr ∧ c < g.nr := by simpa [okIn] using hi
  refine (act3_any 3 a b c g.fb g.tb g.eb g.cb C.length (s.1 + 1) g.rb g.nr (g.ac + 6) _ s.2.1 hi'.1 hi'.2.1 hi'.2.2 w hR.hF (hR.hK.hA 5 _ rfl)).mono ?_
  rintro e w' (⟨h, rfl, hg, hF⟩ | ⟨h, rfl, hg⟩)
  · refine ⟨0, rfl, Or.inl ⟨rfl, _, kd, 0, [], ?_, fun _ => rfl, after_regs hR hm hg hF (B.held_num hR.hH _ _ _)⟩⟩
    show (if _ then _ else _)
    refine ite_yes ?_ ⟨rfl, rfl, rfl⟩
    exact h
  · refine ⟨1, rfl, Or.inr ⟨by omega, by omega, fun s' ev1 => ?_, hg⟩⟩
    show (if _ then _ else _)
    refine ite_no ?_ rfl
    exact h

theorem do6 (a b c : Nat) (hR : Run w g C q kd vb (s.1 + 1, s.2.1, s.2.2) E Tk) (hm : Mid w g E Tk bs qb cq ad ne cap ev) (hi : okIn g.nr C.length (6, a, b, c) = true) :
    Calls Tryz.prog 163 #[stepV 6 a b c g.fb g.tb g.eb, P0 (g.ac + 10)] w fun e w' => ∃ why : Nat, e = .returned (.int .i64 why) ∧ Acted w w' g C q kd vb Tk bs qb cq ad ne cap ev s (6, a, b, c) why := by
  have hi' : a < g.nr ∧ b < g.nr ∧ c < g.nr := by simpa [okIn] using hi
  obtain ⟨b1, l1⟩ := hR.hK.box 9 _ rfl
  obtain ⟨b0, l0⟩ := hR.hK.box 8 _ rfl
  refine (actg86_any 6 a b c g.fb g.tb g.eb g.cb C.length (s.1 + 1) g.rb g.nr (g.ac + 10) (g.ac + 9) _ s.2.1 (0, if s.2.1 b = s.2.1 c then 1 else 0) hi'.1 w hR.hF b1 b0 l1 l0 (fun w1 hg => same_any 6 a b c g.fb g.tb g.eb g.cb C.length (s.1 + 1) g.rb g.nr _ s.2.1 hi'.2.1 hi'.2.2 w1 (hR.hF.kept hg))).mono ?_
  rintro e w' ⟨rfl, hg, hF⟩
  exact ⟨0, rfl, Or.inl ⟨rfl, _, kd, 0, [], ⟨rfl, rfl, rfl⟩, fun _ => rfl, after_regs hR hm hg hF (B.held_num hR.hH _ _ _)⟩⟩

theorem do7 (a b c : Nat) (hR : Run w g C q kd vb (s.1 + 1, s.2.1, s.2.2) E Tk) (hm : Mid w g E Tk bs qb cq ad ne cap ev) (hi : okIn g.nr C.length (7, a, b, c) = true) :
    Calls Tryz.prog 163 #[stepV 7 a b c g.fb g.tb g.eb, P0 (g.ac + 12)] w fun e w' => ∃ why : Nat, e = .returned (.int .i64 why) ∧ Acted w w' g C q kd vb Tk bs qb cq ad ne cap ev s (7, a, b, c) why := by
  have hi' : a = 0 ∧ b = 0 ∧ c ≤ C.length ∧ c ≤ 255 := by simpa [okIn] using hi
  obtain ⟨b1, l1⟩ := hR.hK.box 11 _ rfl
  obtain ⟨b0, l0⟩ := hR.hK.box 10 _ rfl
  refine (actj89_any 7 a b c g.fb g.tb g.eb g.cb C.length (s.1 + 1) g.rb g.nr (g.ac + 12) (g.ac + 11) _ s.2.1 true (256 * b + c) rfl (by omega) (by omega) w hR.hF b1 b0 l1 l0 (fun w1 hg => true_any 7 a b c g.fb g.tb g.eb w1)).mono ?_
  rintro e w' ⟨rfl, hg, hF⟩
  exact ⟨0, rfl, Or.inl ⟨rfl, _, kd, 0, [], ⟨rfl, rfl, rfl⟩, fun _ => rfl, after_next hR hm hg hF (by show 256 * b + c ≤ C.length; omega)⟩⟩

theorem do8 (a b c : Nat) (hR : Run w g C q kd vb (s.1 + 1, s.2.1, s.2.2) E Tk) (hm : Mid w g E Tk bs qb cq ad ne cap ev) (hi : okIn g.nr C.length (8, a, b, c) = true) :
    Calls Tryz.prog 163 #[stepV 8 a b c g.fb g.tb g.eb, P0 (g.ac + 14)] w fun e w' => ∃ why : Nat, e = .returned (.int .i64 why) ∧ Acted w w' g C q kd vb Tk bs qb cq ad ne cap ev s (8, a, b, c) why := by
  have hi' : a < g.nr ∧ b = 0 ∧ c ≤ C.length ∧ c ≤ 255 := by simpa [okIn] using hi
  obtain ⟨b1, l1⟩ := hR.hK.box 13 _ rfl
  obtain ⟨b0, l0⟩ := hR.hK.box 12 _ rfl
  refine (actj90_any 8 a b c g.fb g.tb g.eb g.cb C.length (s.1 + 1) g.rb g.nr (g.ac + 14) (g.ac + 13) _ s.2.1 (decide (s.2.1 a = (0, 0))) (if s.2.1 a = (0, 0) then 256 * b + c else s.1 + 1) (by show _ = _; simp) (by omega) (by omega) w hR.hF b1 b0 l1 l0 (fun w1 hg => zero_any 8 a b c g.fb g.tb g.eb g.cb C.length (s.1 + 1) g.rb g.nr _ s.2.1 hi'.1 w1 (hR.hF.kept hg))).mono ?_
  rintro e w' ⟨rfl, hg, hF⟩
  refine ⟨0, rfl, Or.inl ⟨rfl, _, kd, 0, [], ⟨rfl, rfl, rfl⟩, fun _ => rfl, after_next hR hm hg hF ?_⟩⟩
  have := hR.hp
  simp only at this
  show (if s.2.1 a = (0, 0) then 256 * b + c else s.1 + 1) ≤ C.length
  split <;> omega

theorem do10 (a b c : Nat) (hR : Run w g C q kd vb (s.1 + 1, s.2.1, s.2.2) E Tk) (hm : Mid w g E Tk bs qb cq ad ne cap ev) (hi : okIn g.nr C.length (10, a, b, c) = true) :
    Calls Tryz.prog 101 #[stepV 10 a b c g.fb g.tb g.eb] w fun e w' => ∃ why : Nat, e = .returned (.int .i64 why) ∧ Acted w w' g C q kd vb Tk bs qb cq ad ne cap ev s (10, a, b, c) why := by
  have hi' : a < g.nr ∧ b < g.nr ∧ c < g.nr := by simpa [okIn] using hi
  refine (act10_any 10 a b c g.fb g.tb g.eb g.cb C.length (s.1 + 1) g.rb g.nr g.sb g.pb g.n _ kd vb (s.1 + 1, s.2.1, s.2.2) w hR.hF hR.hS hR.hH hR.hn.2 hi'.1 hi'.2.1 hi'.2.2 ((hR.hE.cell 27 (by omega)).trans (by rw [hR.eE.e26])) hR.hE.lt (ne_ty hR.ty.1 hR.ty.2.2.2.1 (by decide))).mono ?_
  rintro e w' (⟨h, rfl, hg, hF⟩ | ⟨h, why, h1, h2, rfl, hg⟩)
  · have hv := B.held_get hR.hH (B.reach_reg (s := (s.1 + 1, s.2.1, s.2.2)) b hi'.2.1 h.1) (s.2.1 c).2.toNat
    refine ⟨0, rfl, Or.inl ⟨rfl, _, kd, 0, [], ?_, fun _ => rfl, after_regs hR hm hg hF (B.held_set hR.hH _ _ _ hv.1 hv.2)⟩⟩
    show (if _ then _ else _)
    refine ite_yes ?_ ⟨rfl, rfl, rfl⟩
    exact h
  · refine ⟨why, rfl, Or.inr ⟨h1, h2, fun s' ev1 => ?_, hg⟩⟩
    show (if _ then _ else _)
    refine ite_no ?_ rfl
    exact h

theorem do11 (a b c : Nat) (hR : Run w g C q kd vb (s.1 + 1, s.2.1, s.2.2) E Tk) (hm : Mid w g E Tk bs qb cq ad ne cap ev) (hi : okIn g.nr C.length (11, a, b, c) = true) :
    Calls Tryz.prog 102 #[stepV 11 a b c g.fb g.tb g.eb] w fun e w' => ∃ why : Nat, e = .returned (.int .i64 why) ∧ Acted w w' g C q kd vb Tk bs qb cq ad ne cap ev s (11, a, b, c) why := by
  have hi' : a < g.nr ∧ b < g.nr ∧ c < g.nr := by simpa [okIn] using hi
  obtain ⟨y1, y2, y3, y4, y5, y6, y7, y8, y9, y10⟩ := hR.ty
  refine (act11_any 11 a b c g.fb g.tb g.eb g.cb C.length (s.1 + 1) g.rb g.nr g.sb g.pb g.n _ kd vb (s.1 + 1, s.2.1, s.2.2) w hR.hF hR.hS hR.hH hR.hn.2 hi'.1 hi'.2.1 hi'.2.2 ((hR.hE.cell 27 (by omega)).trans (by rw [hR.eE.e26])) hR.hE.lt (fun h => ne_own (y10 _ h) y1 (by decide) rfl)).mono ?_
  rintro e w' (⟨h, rfl, vb', hS, hO, hG⟩ | ⟨h, why, h1, h2, rfl, hg⟩)
  · have hre : B.Reach g.nr (s.1 + 1, s.2.1, s.2.2) (s.2.1 a).1 := B.reach_reg a hi'.1 h.1
    have hl := hR.lt
    refine ⟨0, rfl, Or.inl ⟨rfl, (s.1 + 1, s.2.1, B.lay s.2.2 (s.2.1 a).1 ((s.2.2 (s.2.1 a).1).set (s.2.1 b).2.toNat (s.2.1 c))), _, 0, [], ?_, fun _ => rfl, hO.mono (fun k hk _ => ?_), Or.inl ⟨rfl, vb', E, ad, ne, cap, ?_, ?_, by omega, hG⟩⟩⟩
    · show (if _ then _ else _)
      refine ite_yes ?_ ⟨rfl, rfl, rfl⟩
      exact h
    · unfold Wr
      exact Or.inr (Or.inr (Or.inr (Or.inr (Or.inr (Or.inr (Or.inr (Or.inl (Or.inr (Or.inr hk)))))))))
    · exact { hK := hR.hK.kept hO (fun k hk _ => ⟨(hR.hvr k hk).2, by unfold KT; rcases y10 k hk with h | h | h | h <;> simp [h]⟩), hE := hR.hE.only hO (fun h => ne_own (y10 _ h) y1 (by decide) rfl), eE := hR.eE, hF := hR.hF.keep hO (fun h => ne_own (y10 _ h) y3 (by decide) rfl) (fun h => (hR.hvr _ h).1 rfl), hS := hS, hH := B.held_put hR.hH _ _ _ _ hre (hR.hH.h1 c hi'.2.2) (fun h0 => B.reach_reg c hi'.2.2 h0), ok := hR.ok, hn := hR.hn, hp := hR.hp, hro := hR.hro,
              hvr := fun k hk => by
                rcases hG k hk with h | h
                · exact hR.hvr k h
                · exact ⟨by omega, by omega⟩ }
    · rw [List.append_nil]
      refine hm.keep hO (fun k hk hx => ?_)
      have := y10 k hx
      rcases hk with h | h <;> rw [h] at this <;> exact absurd this (by decide)
  · refine ⟨why, rfl, Or.inr ⟨h1, h2, fun s' ev1 => ?_, hg⟩⟩
    show (if _ then _ else _)
    refine ite_no ?_ rfl
    exact h

/-- The roots of a machine whose task lives no more. -/
theorem wok_left {w1 : World} {bs : Nat} {ad : Option Addr} {ne cap : Nat} {ev2 : List B.Ev} {v : B.V} (hR : Run w g C q kd vb s E Tk) (hO : Only (fun k => k = g.tb ∨ k = g.kb) w w1) (hL : Left w1 w' g.eb g.tb g.lb g.ob bs ne ad cap ev2 E v) (ho42 : ∀ k, (Value.slice ad ne cap).ownBlock = some k → kty w k = 48) (hv : B.Vok kd.on g.n v) (hr : v.1 ≠ 0 → B.Reach g.nr s v.1) : Wok w' g kd vb := by
  obtain ⟨E', x, c, a', c', h1, h2, h3, h4, h5, k1, k2, k3, h6, h7, h8, h9⟩ := hL
  obtain ⟨y1, y2, y3, y4, y5, y6, y7, y8, y9, y10⟩ := hR.ty
  have hsz1 := hO.size
  have hst : ∀ k, k < w.heap.size → (kty w k = 149 ∧ k ≠ g.ob ∨ kty w k = 275 ∨ kty w k = 4 ∨ kty w k = 3 ∨ kty w k = 207 ∨ kty w k = 228) → w'.heap[k]? = w.heap[k]? := by
    intro k hk hT
    have hne : ∀ (a : Nat) (T : TypeId), kty w a = T → (T ≠ 149 ∧ T ≠ 275 ∧ T ≠ 4 ∧ T ≠ 3 ∧ T ≠ 207 ∧ T ≠ 228) → k ≠ a := by
      rintro a T ha hT' rfl
      rw [ha] at hT
      rcases hT with ⟨h, _⟩ | h | h | h | h | h
      · exact hT'.1 h
      · exact hT'.2.1 h
      · exact hT'.2.2.1 h
      · exact hT'.2.2.2.1 h
      · exact hT'.2.2.2.2.1 h
      · exact hT'.2.2.2.2.2 h
    refine (h9.same (by omega) ?_).trans (hO.same hk ?_)
    · rintro (h | h | h | h | h)
      · exact hne _ _ y1 (by decide) h
      · exact hne _ _ y2 (by decide) h
      · exact hne _ _ y7 (by decide) h
      · rcases hT with ⟨_, h'⟩ | hT
        · exact h' h
        · subst h
          rw [y8] at hT
          exact absurd hT (by decide)
      · exact hne k _ (ho42 k h) (by decide) rfl
    · rintro (h | h)
      · exact hne _ _ y2 (by decide) h
      · exact hne _ _ y9 (by decide) h
  have hl := hR.lt
  have hS' : Str w' g.sb g.pb g.eb g.n kd vb s.2.2 := hR.hS.block (hst _ hl.2.2.2.2.1 (Or.inr (Or.inr (Or.inr (Or.inr (Or.inl y5)))))) (hst _ hl.2.2.2.2.2.1 (Or.inr (Or.inr (Or.inr (Or.inr (Or.inr y6)))))) (fun k hk => hst k (hR.hS.lt k hk) (by
    rcases y10 k hk with h | h | h | h
    · exact Or.inl ⟨h, (hR.hvr k hk).2⟩
    · exact Or.inr (Or.inl h)
    · exact Or.inr (Or.inr (Or.inl h))
    · exact Or.inr (Or.inr (Or.inr (Or.inl h)))))
  have e29 : w'.cell? ⟨g.eb, 29, none⟩ = some (.slice a' 0 c') := (h1.cell 29 (by omega)).trans (by rw [h4])
  have nes : g.eb ≠ g.sb := ne_ty y1 y5 (by decide)
  rcases k3 with ⟨hv0, hk⟩ | ⟨hv0, gg, cg, hk, ho⟩
  · have e31 : w'.cell? ⟨g.eb, 31, none⟩ = some (.slice none 0 0) := (h1.cell 31 (by omega)).trans (by rw [hk])
    refine ⟨fun k => k = g.eb, 0, s, vis_off0 g.eb c' a' s.2.1 w' e29 e31, fun k hk => ?_, hS', B.held_sub hR.hH rfl (fun p hp => B.reach_regs (s := s) (x := s.1) (fun i hi => by omega) hp) (fun i hi => by omega), hR.hn.1, hR.hn.2⟩
    subst hk
    exact ⟨h1.lt, nes⟩
  · rw [hk] at ho
    have e31 : w'.cell? ⟨g.eb, 31, none⟩ = some (.slice (some ⟨gg, 0, none⟩) 1 cg) := (h1.cell 31 (by omega)).trans (by rw [hk])
    obtain ⟨g0, g1⟩ : w'.cell? ⟨gg, 0, none⟩ = some (.int .i64 (v.1 : Int)) ∧ w'.cell? ⟨gg, 1, none⟩ = some (.int .i64 v.2) := by
      rcases ho.2 with ⟨h, _⟩ | ⟨g', c'', cur, b1, _, b2, _, _, b3, b4⟩
      · cases h
      · cases b1
        have e0 : cur[0]? = some (.int .i64 (v.1 : Int)) := by
          have := congrArg (fun l => l[0]?) b4
          simpa [List.getElem?_take] using this
        have e1 : cur[1]? = some (.int .i64 v.2) := by
          have := congrArg (fun l => l[1]?) b4
          simpa [List.getElem?_take] using this
        exact ⟨by simp [World.cell?, b2, e0], by simp [World.cell?, b2, e1]⟩
    have hgg := own_ty ho gg rfl
    refine ⟨fun k => k = g.eb ∨ k = gg, 1, (s.1, fun _ => v, s.2.2), vis_off1 g.eb c' gg cg a' v w' e29 e31 g0 g1, fun k hk => ?_, hS', B.held_sub hR.hH rfl (fun p hp => B.reach_regs (s := s) (x := s.1) (fun i _ h0 => hr h0) hp) (fun i _ => hv), hR.hn.1, hR.hn.2⟩
    rcases hk with rfl | rfl
    · exact ⟨h1.lt, nes⟩
    · exact ⟨hgg.2.1, by have := hl.2.2.2.2.1; omega⟩

/-- A task's life has ended. -/
theorem after_left {w1 : World} {ev1 : List B.Ev} {r : Nat} {v : B.V} (hR : Run w g C q kd vb s E Tk) (hm : Mid w g E Tk bs qb cq ad ne cap ev) (hO : Only (fun k => k = g.tb ∨ k = g.kb) w w1) (hL : Left w1 w' g.eb g.tb g.lb g.ob bs ne ad cap (ev ++ ev1) E v) (hv : B.Vok kd.on g.n v) (hrv : v.1 ≠ 0 → B.Reach g.nr s v.1) (hr : r = 1 ∨ r = 3) (s' : B.St) :
    After w w' g C q kd vb Tk bs qb cq ad ne cap ev s' kd r ev1 := by
  have hW := wok_left hR hO hL (fun k hk => kty_own hm.o42 hk) hv hrv
  obtain ⟨E', x, c, a', c', h1, h2, h3, h4, h5, k1, k2, k3, h6, h7, h8, h9⟩ := hL
  refine ⟨?_, Or.inr ⟨by omega, vb, E', _, _, _, h1, ⟨h3.trans hR.eE.e27, fun _ => ⟨⟨_, _, h4⟩, h5.trans hR.eE.e41⟩, fun e => by omega⟩, h2.trans hR.eE.e1, k1.trans hR.eE.e2, k2.trans hR.eE.e26, hW, Grew.refl _ _ _ _, h6, h7, by omega, h8, fun e => by omega, fun e => by omega⟩⟩
  refine (hO.mono (fun k hk _ => by unfold Wr; omega)).trans h9 (fun k hk _ => ?_)
  unfold Wr
  rcases hk with h | h | h | h | h
  · exact Or.inl h
  · exact Or.inr (Or.inl h)
  · exact Or.inr (Or.inr (Or.inl h))
  · exact Or.inr (Or.inr (Or.inr (Or.inl h)))
  · exact Or.inr (Or.inr (Or.inr (Or.inr (Or.inr (Or.inr (Or.inr (Or.inr (Or.inl h))))))))

theorem do14 (a b c : Nat) (hR : Run w g C q kd vb (s.1 + 1, s.2.1, s.2.2) E Tk) (hm : Mid w g E Tk bs qb cq ad ne cap ev) (hne : ne ≤ 100000) (hi : okIn g.nr C.length (14, a, b, c) = true) :
    Calls Tryz.prog 163 #[stepV 14 a b c g.fb g.tb g.eb, P0 (g.ac + 19)] w fun e w' => ∃ why : Nat, e = .returned (.int .i64 why) ∧ Acted w w' g C q kd vb Tk bs qb cq ad ne cap ev s (14, a, b, c) why := by
  have hi' : a < g.nr ∧ b = 0 ∧ c = 0 := by simpa [okIn] using hi
  refine (act14_any 14 a b c g.eb g.tb g.lb g.cl g.ob g.co bs g.xe g.xt g.kb g.ck g.fb g.cb C.length (s.1 + 1) g.rb g.nr (g.ac + 19) s.2.1 hi'.1 ad ne cap ev E Tk w (hR.leav hm hne) hR.hK.hxe hR.hK.hxt hR.hK.t1 hR.hK.oK hR.hF (hR.hK.hA 18 _ rfl)).mono ?_
  rintro e w' ⟨rfl, w1, hL, hO⟩
  refine ⟨0, rfl, Or.inl ⟨rfl, s, kd, 1, [(2, (s.2.1 a).2)], ⟨rfl, ?_⟩, fun h => by omega, after_left hR hm hO hL (hR.hH.h1 a hi'.1) (fun h0 => B.reach_reg a hi'.1 h0) (Or.inl rfl) s⟩⟩
  rcases hR.hH.h1 a hi'.1 with h0 | ⟨_, _, _, h0⟩
  · show _ = [(2, if (s.2.1 a).1 = 0 then _ else _)]
    rw [if_pos h0]
  · have h0' : (s.2.1 a).2 = 0 := h0
    show _ = [(2, if (s.2.1 a).1 = 0 then (s.2.1 a).2 else 0)]
    rw [h0']; split <;> rfl

theorem do20 (a b c : Nat) (hR : Run w g C q kd vb (s.1 + 1, s.2.1, s.2.2) E Tk) (hm : Mid w g E Tk bs qb cq ad ne cap ev) (hne : ne ≤ 100000) (hi : okIn g.nr C.length (20, a, b, c) = true) :
    Calls Tryz.prog 167 #[stepV 20 a b c g.fb g.tb g.eb, P0 (g.ac + 27), P0 (g.ac + 28)] w fun e w' => ∃ why : Nat, e = .returned (.int .i64 why) ∧ Acted w w' g C q kd vb Tk bs qb cq ad ne cap ev s (20, a, b, c) why := by
  have hi' : a < g.nr ∧ b = 0 ∧ c = 0 := by simpa [okIn] using hi
  refine (act20_any 20 a b c g.fb g.tb g.eb g.cb C.length (s.1 + 1) g.rb g.nr bs (g.ac + 27) (g.ac + 28) _ s.2.1 hi'.1 ad ne cap ev E Tk w hR.hF hR.hE hm.e42 hR.hK.hT hR.hK.t0 hm.o42 hm.hb hne (hR.hK.hA 26 _ rfl) (hR.hK.hA 27 _ rfl)).mono ?_
  rintro e w' (⟨h, rfl, x, c', ho, hE, hO⟩ | ⟨h, rfl, hg⟩)
  · obtain ⟨y1, y2, y3, y4, y5, y6, y7, y8, y9, y10⟩ := hR.ty
    have hS : ∀ k, (k = g.eb ∨ (Value.slice ad ne cap).ownBlock = some k) → kty w k = 144 ∨ kty w k = 48 := by
      rintro k (rfl | h)
      · exact Or.inl y1
      · exact Or.inr (kty_own hm.o42 h)
    have hN : ∀ k, kty w k ≠ 144 → kty w k ≠ 48 → ¬ (k = g.eb ∨ (Value.slice ad ne cap).ownBlock = some k) := fun k h1 h2 h3 => by
      rcases hS k h3 with h | h
      · exact h1 h
      · exact h2 h
    refine ⟨0, rfl, Or.inl ⟨rfl, (s.1 + 1, s.2.1, s.2.2), kd, 0, [(1, (s.2.1 a).2)], ?_, fun _ => rfl, hO.mono (fun k hk _ => by unfold Wr; rcases hk with h | h <;> simp [h]), Or.inl ⟨rfl, vb, upd E 43 (.slice (some ⟨x, 0, none⟩) (ne + 1) c'), some ⟨x, 0, none⟩, ne + 1, c', ?_, ?_, Nat.le_refl _, Grew.refl _ _ _ _⟩⟩⟩
    · show (if _ then _ else _)
      refine ite_yes ?_ ⟨rfl, rfl, rfl⟩
      exact h
    · exact { hK := hR.hK.kept hO (fun k hk _ => by
                have := hS k hk
                refine ⟨fun e => ?_, by unfold KT; rcases this with h | h <;> simp [h]⟩
                subst e; rw [y8] at this; exact absurd this (by decide)), hE := hE, eE := hR.eE.upd 43 _ (Or.inr (Or.inr rfl)), hF := hR.hF.keep hO (hN _ (by rw [y3]; decide) (by rw [y3]; decide)) (hN _ (by rw [y4]; decide) (by rw [y4]; decide)),
              hS := hR.hS.keep hO (hN _ (by rw [y5]; decide) (by rw [y5]; decide)) (hN _ (by rw [y6]; decide) (by rw [y6]; decide)) (fun k hk => hN _ (by rcases y10 k hk with h | h | h | h <;> rw [h] <;> decide) (by rcases y10 k hk with h | h | h | h <;> rw [h] <;> decide)), hH := hR.hH, ok := hR.ok, hn := hR.hn, hp := hR.hp, hvr := hR.hvr, hro := hR.hro }
    · exact { t2 := hm.t2, t3 := hm.t3, e31 := (upd_off _ _ _ _ (by omega)).trans hm.e31, o31 := own_of hm.o31 (fun k hk => hO.same (own_ty hm.o31 k hk).2.1 (hN k (by rw [kty_own hm.o31 hk]; decide) (by rw [kty_own hm.o31 hk]; decide))), e42 := upd_at _ _ _, o42 := ho, hb := Nat.le_trans hm.hb hO.size, e32 := (upd_off _ _ _ _ (by omega)).trans hm.e32, h32 := hm.h32, n32 := hm.n32, nqb := hm.nqb, hcq := hm.hcq, o32 := own_of hm.o32 (fun k hk => hO.same (own_ty hm.o32 k hk).2.1 (hN k (by rw [kty_own hm.o32 hk]; decide) (by rw [kty_own hm.o32 hk]; decide))) }
  · refine ⟨1, rfl, Or.inr ⟨by omega, by omega, fun s' ev1 => ?_, hg⟩⟩
    show (if _ then _ else _)
    refine ite_no ?_ rfl
    exact h

theorem do9 (a b c : Nat) (hR : Run w g C q kd vb (s.1 + 1, s.2.1, s.2.2) E Tk) (hm : Mid w g E Tk bs qb cq ad ne cap ev) (hne : ne ≤ 100000) (hi : okIn g.nr C.length (9, a, b, c) = true) :
    Calls Tryz.prog 163 #[stepV 9 a b c g.fb g.tb g.eb, P0 (g.ac + 16)] w fun e w' => ∃ why : Nat, e = .returned (.int .i64 why) ∧ Acted w w' g C q kd vb Tk bs qb cq ad ne cap ev s (9, a, b, c) why := by
  have hi' : a < g.nr ∧ b ≤ 8 ∧ c = 0 := by simpa [okIn] using hi
  obtain ⟨y1, y2, y3, y4, y5, y6, y7, y8, y9, y10⟩ := hR.ty
  obtain ⟨l1, l2, l3, l4, l5, l6, l7, l8, l9, l10, l11⟩ := hR.lt
  have hsb : ∀ k, Sbk g.sb g.pb g.n kd vb k → (kty w k = 207 ∨ kty w k = 228 ∨ kty w k = 149 ∨ kty w k = 275 ∨ kty w k = 4 ∨ kty w k = 3) ∧ k ≠ g.rb ∧ k ≠ g.ob := by
    rintro k (rfl | rfl | hk)
    · exact ⟨Or.inl y5, ne_ty y5 y4 (by decide), ne_ty y5 y8 (by decide)⟩
    · exact ⟨Or.inr (Or.inl y6), ne_ty y6 y4 (by decide), ne_ty y6 y8 (by decide)⟩
    · exact ⟨Or.inr (Or.inr (y10 k hk)), hR.hvr k hk⟩
  have hno : ∀ (a : Nat) (T : TypeId), kty w a = T → (T ≠ 207 ∧ T ≠ 228 ∧ T ≠ 149 ∧ T ≠ 275 ∧ T ≠ 4 ∧ T ≠ 3) → ¬ Sbk g.sb g.pb g.n kd vb a := by
    intro a T ha hT h
    have := (hsb a h).1
    rw [ha] at this
    rcases this with h | h | h | h | h | h
    · exact hT.1 h
    · exact hT.2.1 h
    · exact hT.2.2.1 h
    · exact hT.2.2.2.1 h
    · exact hT.2.2.2.2.1 h
    · exact hT.2.2.2.2.2 h
  refine (act9_any _ 9 a b c g.eb g.tb g.fb g.cb C.length (s.1 + 1) g.rb g.nr bs (g.ac + 15) (g.ac + 16) _ g.sb g.pb g.n kd vb (s.1 + 1, s.2.1, s.2.2) ad ne cap ev E Tk w hR.rts hR.hF hi'.2.1 hi'.1 hR.hE hR.hK.hT hR.eE.e26 hm.e42 hm.o42 hR.hK.t0 hm.hb hne (fun k hk => (hR.hvr k hk).1) (hR.hK.hA 14 _ rfl) (hR.hK.hA 15 _ rfl)).mono ?_
  rintro e w' ⟨rfl, (⟨k, kd1, vb1, h1, h2, h3, h4, h5, h6, h7, hO⟩ | ⟨hre, ⟨kd1, k1, k2, k3⟩, x, c', ho, hE, hT, hO⟩)⟩
  · have hd := B.does_cell (s := s) (kd := kd1) (nr := g.nr) (n := g.n) (B.held_at h3 s.1) a (k + 1) b (by omega) (by omega) h2 c
    refine ⟨0, rfl, Or.inl ⟨rfl, _, B.laid kd1 (k + 1), 0, [], hd, fun _ => ⟨kd1, k + 1, by omega, by omega, h2, rfl, rfl, h4⟩, hO.mono (fun k hk _ => ?_), Or.inl ⟨rfl, vb1, E, ad, ne, cap, ?_, ?_, by omega, h6⟩⟩⟩
    · unfold Wr
      rcases hk with h | h
      · exact Or.inr (Or.inr (Or.inr (Or.inr (Or.inr (Or.inr (Or.inr (Or.inl h)))))))
      · exact Or.inr (Or.inr (Or.inr (Or.inr (Or.inr (Or.inr (Or.inl h))))))
    · exact { hK := hR.hK.kept hO (fun k hk _ => by
                rcases hk with h | rfl
                · refine ⟨(hsb k h).2.2, ?_⟩
                  unfold KT
                  rcases (hsb k h).1 with h | h | h | h | h | h <;> simp [h]
                · exact ⟨hR.hro, Or.inr (Or.inl y4)⟩), hE := hR.hE.only hO (fun h => h.elim (hno _ _ y1 (by decide)) (fun h => ne_ty y1 y4 (by decide) h)), eE := hR.eE, hF := h7, hS := h5, hH := B.held_new h3 _ _ _ _ (by omega) (by omega) h2, ok := hR.ok, hn := hR.hn, hp := hR.hp, hro := hR.hro,
              hvr := fun k hk => by
                rcases h6 k hk with h | h
                · exact hR.hvr k h
                · exact ⟨by omega, by omega⟩ }
    · rw [List.append_nil]
      refine hm.keep hO (fun k hk h => ?_)
      rcases h with h | rfl
      · have := (hsb k h).1
        rcases hk with hk | hk <;> rw [hk] at this <;> exact absurd this (by decide)
      · rw [y4] at hk; exact absurd hk (by decide)
  · have hd := B.does_spend (s := s) (nr := g.nr) (n := g.n) hre a b c s
    refine ⟨0, rfl, Or.inl ⟨rfl, _, kd1, 2, [(5, 0)], hd, fun h => by omega, hO.mono (fun k hk _ => ?_), Or.inr ⟨by omega, vb, upd (upd E 42 (.bool true)) 43 (.slice (some ⟨x, 0, none⟩) (ne + 1) c'), some ⟨x, 0, none⟩, ne + 1, c', hE, ⟨?_, fun e => by omega, fun _ => ⟨⟨some ⟨g.lb, 0, none⟩, 1, g.cl, ?_⟩, ?_⟩⟩, ?_, ?_, ?_, ?_, k3, upd_at _ _ _, ho, Nat.le_refl _, ?_, fun e => by omega, fun e => by omega⟩⟩⟩
    · unfold Wr
      rcases hk with h | h | h | h
      · exact Or.inr (Or.inr (Or.inr (Or.inr (Or.inr (Or.inr (Or.inr (Or.inl h)))))))
      · exact Or.inl h
      · exact Or.inr (Or.inl h)
      · exact Or.inr (Or.inr (Or.inr (Or.inr (Or.inr (Or.inr (Or.inr (Or.inr (Or.inl h))))))))
    · rw [upd_off _ _ _ _ (by omega), upd_off _ _ _ _ (by omega)]; exact hR.eE.e27
    · rw [upd_off _ _ _ _ (by omega), upd_off _ _ _ _ (by omega)]; exact hR.eE.e28
    · rw [upd_off _ _ _ _ (by omega), upd_at]
    · rw [upd_off _ _ _ _ (by omega), upd_off _ _ _ _ (by omega)]; exact hR.eE.e1
    · rw [upd_off _ _ _ _ (by omega), upd_off _ _ _ _ (by omega)]; exact hR.eE.e2
    · rw [upd_off _ _ _ _ (by omega), upd_off _ _ _ _ (by omega)]; exact hR.eE.e26
    · have hA : Alv w' g.eb g.lb g.cl g.tb g.kb g.ck g.fb g.cb C.length (s.1 + 1) g.rb g.nr (Fv 120 #[P0 g.xe, P0 g.xt]) s.2.1 := by
        have hnk : ∀ (b : Nat) (T : TypeId), kty w b = T → (T ≠ 207 ∧ T ≠ 228 ∧ T ≠ 149 ∧ T ≠ 275 ∧ T ≠ 4 ∧ T ≠ 3) → T ≠ 144 → T ≠ 160 → T ≠ 48 → ¬ (Sbk g.sb g.pb g.n kd vb b ∨ b = g.eb ∨ b = g.tb ∨ (Value.slice ad ne cap).ownBlock = some b) := by
          intro b T hb hT n1 n2 n3 h
          rcases h with h | h | h | h
          · exact hno b T hb hT h
          · subst h; exact n1 (hb.symm.trans y1)
          · subst h; exact n2 (hb.symm.trans y2)
          · exact n3 (hb.symm.trans (kty_own hm.o42 h))
        have hnr : ¬ (Sbk g.sb g.pb g.n kd vb g.rb ∨ g.rb = g.eb ∨ g.rb = g.tb ∨ (Value.slice ad ne cap).ownBlock = some g.rb) := by
          rintro (h | h | h | h)
          · exact (hsb _ h).2.1 rfl
          · exact ne_ty y4 y1 (by decide) h
          · exact ne_ty y4 y2 (by decide) h
          · have := kty_own hm.o42 h; rw [y4] at this; exact absurd this (by decide)
        refine ⟨(hE.cell 29 (by omega)).trans ?_, (hO.cell l7 (hnk _ _ y7 (by decide) (by decide) (by decide) (by decide))).trans (own_cell hR.hK.o28), (hE.cell 31 (by omega)).trans ?_, (hT.cell 1 (by omega)).trans ?_, (hO.cell l9 (hnk _ _ y9 (by decide) (by decide) (by decide) (by decide))).trans (own_cell hR.hK.oK), hO.block hR.hF.1 (hnk _ _ y3 (by decide) (by decide) (by decide) (by decide)), hR.hF.2.1.only hO hnr, hR.hF.2.2⟩
        · rw [upd_off _ _ _ _ (by omega), upd_off _ _ _ _ (by omega), hR.eE.e28]
        · rw [upd_off _ _ _ _ (by omega), upd_off _ _ _ _ (by omega), hR.eE.e30]
        · rw [upd_off _ _ _ _ (by omega), hR.hK.t1]
      refine ⟨_, g.nr, (s.1 + 1, s.2.1, s.2.2), vis_alive _ _ _ _ _ _ _ _ _ _ _ _ _ _ w' hA hR.ok.2.1, fun k hk => ⟨hA.lt k hk, ?_⟩, k1, k2, hR.hn.1, hR.hn.2⟩
      rcases hk with rfl | rfl | rfl | rfl | rfl | rfl
      · exact ne_ty y1 y5 (by decide)
      · exact ne_ty y7 y5 (by decide)
      · exact ne_ty y2 y5 (by decide)
      · exact ne_ty y9 y5 (by decide)
      · exact ne_ty y3 y5 (by decide)
      · exact ne_ty y4 y5 (by decide)
    · rw [hT.cell 2 (by omega), upd_at]
end
end Go.Proofs.YtnjiinbhbjpfkaaGreatDoor

/-
  Lines of tasks are written: what stays of a machine of one task.
-/
namespace Go.Proofs.YtnjiinbhbjpfkaaGreatDoor
open Go.RowKit

theorem actB_kt2 (b k : Nat) (x : Value × TypeId) (h : (actB b)[k]? = some x) : x.2 ≠ 144 ∧ x.2 ≠ 160 ∧ x.2 ≠ 155 := by
  have hm := List.mem_of_getElem? h
  have e : (actB b).map (·.2) = [187, 199, 187, 199, 190, 190, 190, 190, 187, 199, 193, 199, 193, 199, 195, 199, 195, 199, 199, 199, 187, 202, 187, 202, 187, 202, 187, 202, 187, 202, 187, 199] := rfl
  have : ∀ y : TypeId, y ∈ ([187, 199, 187, 199, 190, 190, 190, 190, 187, 199, 193, 199, 193, 199, 195, 199, 195, 199, 199, 199, 187, 202, 187, 202, 187, 202, 187, 202, 187, 202, 187, 199] : List TypeId) → y ≠ 144 ∧ y ≠ 160 ∧ y ≠ 155 := by decide
  exact this _ (e ▸ List.mem_map_of_mem hm)

section
variable {w w' : World} {g : Geo} {C : List B.In} {q : Nat} {kd : B.Kd} {vb : Vs} {s : B.St} {E E' Tk Tk' : Nat → Value} {bs qb cq : Nat} {ad : Option Addr} {ne cap : Nat} {ev : List B.Ev}
theorem Run.lines {Z : Nat → Prop} (h : Run w g C q kd vb s E Tk) (hO : Only (fun k => k = g.eb ∨ k = g.tb ∨ Z k) w w') (hq : ∀ k, Z k → kty w k = 155) (h1 : ¬ Z g.lb) (h2 : ¬ Z g.xt) (hE : Full w' g.eb 144 44 44 E') (eE : Egn g q E') (hT : Full w' g.tb 160 7 7 Tk') (t0 : Tk' 0 = Tk 0) (t1 : Tk' 1 = Tk 1) (t6 : Tk' 6 = Tk 6) : Run w' g C q kd vb s E' Tk' := by
  obtain ⟨y1, y2, y3, y4, y5, y6, y7, y8, y9, y10⟩ := h.ty
  have hs : ∀ (k : Nat) (cur : Array Value) (T : TypeId) (f : Nat × Nat), w.heap[k]? = some (.cells cur T f) → T ≠ 144 → T ≠ 160 → ¬ Z k → w'.heap[k]? = w.heap[k]? := by
    intro k cur T f hk n1 n2 n3
    refine hO.same (heap_lt hk) ?_
    have := kty_of hk
    rintro (rfl | rfl | hz)
    · exact n1 (this.symm.trans y1)
    · exact n2 (this.symm.trans y2)
    · exact n3 hz
  have hs' : ∀ (k : Nat) (cur : Array Value) (T : TypeId) (f : Nat × Nat), w.heap[k]? = some (.cells cur T f) → T ≠ 144 → T ≠ 160 → T ≠ 155 → w'.heap[k]? = w.heap[k]? := by
    intro k cur T f hk n1 n2 n3
    exact hs k cur T f hk n1 n2 (fun e => n3 (by rw [← kty_of hk, hq k e]))
  have hf : ∀ {b n m : Nat} {T : TypeId} {P : Nat → Value}, Full w b T n m P → T ≠ 144 → T ≠ 160 → T ≠ 155 → Full w' b T n m P := by
    intro b n m T P h1 n1 n2 n3
    obtain ⟨cur, h3, _⟩ := id h1
    exact h1.block (hs' b _ _ _ h3 n1 n2 n3)
  have ho : ∀ {base size n : Nat} {e : TypeId} {b m c : Nat} {xs : List Value}, w.ownsRow base e size (.slice (some ⟨b, 0, none⟩) m c) n xs → e ≠ 144 → e ≠ 160 → ¬ Z b → w'.ownsRow base e size (.slice (some ⟨b, 0, none⟩) m c) n xs := by
    intro base size n e b m c xs h1 n1 n2 n3
    refine own_of h1 (fun k hb => ?_)
    have : b = k := by injection hb
    subst this
    obtain ⟨_, _, cur, h3⟩ := own_ty h1 b rfl
    exact hs b _ _ _ h3 n1 n2 n3
  have hK := h.hK
  exact {
    hK := { hT := hT, t0 := t0.trans hK.t0, t1 := t1.trans hK.t1, t6 := t6.trans hK.t6, o28 := ho hK.o28 (by decide) (by decide) h1, o29 := ho hK.o29 (by decide) (by decide) (fun e => absurd (y8.symm.trans (hq _ e)) (by decide)), oK := ho hK.oK (by decide) (by decide) (fun e => absurd (y9.symm.trans (hq _ e)) (by decide)),
            hxe := (hs' _ _ _ _ hK.hxe (by decide) (by decide) (by decide)).trans hK.hxe, hxt := (hs _ _ _ _ hK.hxt (by decide) (by decide) h2).trans hK.hxt, hC := hf hK.hC (by decide) (by decide) (by decide),
            hA := fun k x hx => by
              have hb := hK.hA k x hx
              have := actB_kt2 _ k x hx
              exact (hs' _ _ _ _ hb this.1 this.2.1 this.2.2).trans hb }
    hE := hE
    eE := eE
    hF := ⟨(hs' _ _ _ _ h.hF.1 (by decide) (by decide) (by decide)).trans h.hF.1, hf h.hF.2.1 (by decide) (by decide) (by decide), h.hF.2.2⟩
    hS := h.hS.block (hs' _ _ _ _ h.hS.b (by decide) (by decide) (by decide)) (by obtain ⟨cu, hp, _⟩ := h.hS.p.p; exact hs' _ _ _ _ hp (by decide) (by decide) (by decide)) (fun k hk => by
      obtain ⟨cu, T, h1, h2⟩ := h.hS.ty k hk
      exact hs' _ _ _ _ h1 (by rcases h2 with rfl | rfl | rfl | rfl <;> decide) (by rcases h2 with rfl | rfl | rfl | rfl <;> decide) (by rcases h2 with rfl | rfl | rfl | rfl <;> decide))
    hH := h.hH, ok := h.ok, hn := h.hn, hp := h.hp, hvr := h.hvr, hro := h.hro }
theorem Run.line (h : Run w g C q kd vb s E Tk) (hO : Only (fun k => k = g.eb ∨ k = g.tb ∨ k = qb) w w') (hq : kty w qb = 155) (h1 : g.lb ≠ qb) (h2 : g.xt ≠ qb) (hE : Full w' g.eb 144 44 44 E') (eE : Egn g q E') (hT : Full w' g.tb 160 7 7 Tk') (t0 : Tk' 0 = Tk 0) (t1 : Tk' 1 = Tk 1) (t6 : Tk' 6 = Tk 6) : Run w' g C q kd vb s E' Tk' :=
  h.lines (Z := fun k => k = qb) hO (fun _ e => e ▸ hq) h1 h2 hE eE hT t0 t1 t6
end
end Go.Proofs.YtnjiinbhbjpfkaaGreatDoor

/-
  A task goes among those that sleep, or out of there.
-/
namespace Go.Proofs.YtnjiinbhbjpfkaaGreatDoor
open Go.RowKit

set_option maxRecDepth 100000 in
set_option maxHeartbeats 1000000 in
/-- A task that stands nowhere goes to the end of the queue, which is empty. -/
theorem insert32_any (eb tb cap base : Nat) (ad : Option Addr) (E Tk : Nat → Value) (w : World) (hE : Full w eb 144 44 44 E) (hE32 : E 33 = .slice ad 0 cap) (hT : Full w tb 160 7 7 Tk) (hT3 : Tk 3 = .pointer none)
    (hown : w.ownsRow base 155 1 (.slice ad 0 cap) 0 []) (hcap : ad ≠ none → 0 < cap) (hb : base ≤ w.heap.size) :
    Calls Tryz.prog 166 #[Pt eb 33, .int .i64 0, P0 tb] w fun e w' => e = .returned (.tuple #[]) ∧ ∃ g c, w'.ownsRow base 155 1 (.slice (some ⟨g, 0, none⟩) 1 c) 1 [P0 tb] ∧ Full w' eb 144 44 44 (upd E 33 (.slice (some ⟨g, 0, none⟩) 1 c)) ∧ Full w' tb 160 7 7 (upd (upd Tk 2 (.bool false)) 3 (Pt eb 33)) ∧ Only (fun k => k = eb ∨ k = tb ∨ (Value.slice ad 0 cap).ownBlock = some k) w w' := by
  have ne : eb ≠ tb := hE.ne hT (by decide)
  obtain ⟨c32, z32⟩ := hE.cells 33 (by omega)
  obtain ⟨c2, z2⟩ := hT.cells 2 (by omega)
  obtain ⟨c3, z3⟩ := hT.cells 3 (by omega)
  rw [hE32] at c32
  rw [hT3] at c3
  generalize Tk 2 = y2 at c2
  have le := hE.lt
  have lt := hT.lt
  have HE : Hid (Full w eb 144 44 44 E) := hE
  have HT : Hid (Full w tb 160 7 7 Tk) := hT
  have HO : Hid (w.ownsRow base 155 1 (.slice ad 0 cap) 0 []) := hown
  have HC : Hid (ad ≠ none → 0 < cap) := hcap
  clear hE hT hown hcap hE32 hT3
  go_enter Tryz.func166, Tryz.ntmps166
  go_wp2_with fail
  refine (stepOut_none tb w c3).mono ?_
  rintro e w1 ⟨rfl, rfl⟩
  go_wp2_with fail
  have hk : ∀ k, (Value.slice ad 0 cap).ownBlock = some k → k ≠ eb ∧ k ≠ tb ∧ k < w1.heap.size := fun k hk => ⟨own_ne HO.out HE.out (by decide) k hk, own_ne HO.out HT.out (by decide) k hk, (own_ty HO.out k hk).2.1⟩
  refine (sinsert_any ad cap base w1.heap.size (P0 tb) rfl _ (own_of HO.out (fun k h => ?_)) (by simp [go_sem]) (by simp [World.setCell]; omega) HC.out).mono ?_
  · rw [Below.heap_alloc _ _ _ (by simp [World.setCell]; exact (hk k h).2.2), Below.heap_setCell _ _ _ _ (hk k h).2.1, Below.heap_setCell _ _ _ _ (hk k h).2.1]
  rintro e w2 ⟨g, c, rfl, ho2, hg2⟩
  have hz := hg2.size
  simp [World.setCell] at hz
  have HE2 : Hid (Full w2 eb 144 44 44 E) := (((HE.out.off ne).off ne).block (Below.heap_alloc _ _ _ (by simp [World.setCell]; omega))).block (hg2.block eb (by simp [World.setCell]; omega) (fun h => (hk eb h.symm).1 rfl))
  have HT2 : Hid (Full w2 tb 160 7 7 (upd (upd Tk 2 (.bool false)) 3 (Pt eb 33))) := (((HT.out.upd 2 _).upd 3 _).block (Below.heap_alloc _ _ _ (by simp [World.setCell]; omega))).block (hg2.block tb (by simp [World.setCell]; omega) (fun h => (hk tb h.symm).2.1 rfl))
  have KO : Hid (Only (fun k => k = eb ∨ k = tb ∨ (Value.slice ad 0 cap).ownBlock = some k) w1 w2) := by
    refine Only.trans (S1 := fun k => (Value.slice ad 0 cap).ownBlock = some k) (w1 := ((w1.setCell ⟨tb, 2, none⟩ (.bool false)).setCell ⟨tb, 3, none⟩ (Pt eb 33)).alloc (.cells #[P0 tb] 155)) ?_ ⟨hg2.os, hg2.tape, hg2.output, hg2.size, fun k hk hn => hg2.block k hk (fun e => hn e.symm)⟩ (fun k h _ => Or.inr (Or.inr h))
    exact only_alloc (only_setCell (only_setCell (only_refl _ _) (Or.inl (Or.inr (Or.inl rfl))) _) (Or.inl (Or.inr (Or.inl rfl))) _) _
  have KW : Hid (w2.ownsRow base 155 1 (.slice (some ⟨g, 0, none⟩) 1 c) 1 [P0 tb]) := ho2
  obtain ⟨d32, e32⟩ := HE2.out.cells 33 (by omega)
  have le2 : eb < w2.heap.size := by omega
  generalize E 33 = y32 at d32
  clear hg2 ho2 c32 z32 c2 z2 c3 z3
  go_wp2_with fail
  go_end0
  refine ⟨rfl, g, c, own_of KW.out (fun k h => ?_), HE2.out.upd 33 _, HT2.out.off (fun e => ne e.symm), only_setCell KO.out (Or.inl (Or.inl rfl)) _⟩
  exact Below.heap_setCell _ _ _ _ (own_ne KW.out HE2.out (by decide) k h)

set_option maxRecDepth 100000 in
set_option maxHeartbeats 4000000 in
/-- The only task of the queue steps out of it. -/
theorem stepOut32_any (eb tb g c base : Nat) (E Tk : Nat → Value) (w : World) (hE : Full w eb 144 44 44 E) (hE32 : E 33 = .slice (some ⟨g, 0, none⟩) 1 c) (hT : Full w tb 160 7 7 Tk) (hT3 : Tk 3 = Pt eb 33)
    (hown : w.ownsRow base 155 1 (.slice (some ⟨g, 0, none⟩) 1 c) 1 [P0 tb]) :
    Calls Tryz.prog 133 #[P0 tb] w fun e w' => e = .returned (.tuple #[]) ∧ w'.ownsRow base 155 1 (.slice (some ⟨g, 0, none⟩) 0 c) 0 [] ∧ Full w' eb 144 44 44 (upd E 33 (.slice (some ⟨g, 0, none⟩) 0 c)) ∧ Full w' tb 160 7 7 (upd (upd Tk 3 (.pointer none)) 4 .nilFunc) ∧ Only (fun k => k = eb ∨ k = tb ∨ k = g) w w' := by
  have ne : eb ≠ tb := hE.ne hT (by decide)
  obtain ⟨c32, z32⟩ := hE.cells 33 (by omega)
  obtain ⟨c3, z3⟩ := hT.cells 3 (by omega)
  obtain ⟨c4, z4⟩ := hT.cells 4 (by omega)
  rw [hE32] at c32
  rw [hT3] at c3
  generalize Tk 4 = y4 at c4
  have le := hE.lt
  have lt := hT.lt
  have HE : Hid (Full w eb 144 44 44 E) := hE
  have HT : Hid (Full w tb 160 7 7 Tk) := hT
  have HO : Hid (w.ownsRow base 155 1 (.slice (some ⟨g, 0, none⟩) 1 c) 1 [P0 tb]) := hown
  have ge : g ≠ eb := own_ne hown hE (by decide) g rfl
  have gt : g ≠ tb := own_ne hown hT (by decide) g rfl
  have q0 : w.cell? ⟨g, 0, none⟩ = some (P0 tb) := by
    rcases hown.2 with ⟨h, _⟩ | ⟨g', c', cur, h1, _, h2, _, _, h3, h4⟩
    · cases h
    · cases h1
      have : cur[0]? = some (P0 tb) := by
        have := congrArg (fun l => l[0]?) h4
        simpa using this
      simp [World.cell?, h2, this]
  have HT3 := hid hT3
  clear hE hT hown hE32 hT3
  go_enter Tryz.func133, Tryz.ntmps133
  go_wp2_with fail


  refine (sindex_any g c tb w q0).mono ?_
  rintro e w1 ⟨rfl, rfl⟩
  go_wp2_with fail
  go_region_with (go_at_call 184; refine (sdelete_any g c tb base w1.drew (own_of HO.out (fun _ _ => rfl))).mono ?_; rintro e w2 ⟨rfl, ho2, hg2'⟩; have hg2 : w1.grownBy w2 (some g) := ⟨hg2'.os, hg2'.tape, hg2'.output, hg2'.size, hg2'.block⟩; clear hg2'; have HO2 : Hid (w2.ownsRow base 155 1 (.slice (some ⟨g, 0, none⟩) 0 c) 0 []) := ho2; have HG2 : Hid (w1.grownBy w2 (some g)) := hg2; have HE2 : Hid (Full w2 eb 144 44 44 E) := HE.out.kept hg2 (fun e => ge e.symm); have HT2 : Hid (Full w2 tb 160 7 7 Tk) := HT.out.kept hg2 (fun e => gt e.symm); obtain ⟨d32, e32⟩ := HE2.out.cells 33 (by omega); have c3' : w2.cell? ⟨tb, 3, none⟩ = some (Pt eb 33) := (HT2.out.cell 3 (by omega)).trans (by rw [HT3.out]); have le2 := HE2.out.lt; have lt2 := HT2.out.lt; clear ho2 hg2)
  all_goals
    obtain ⟨d4, e4⟩ := HT2.out.cells 4 (by omega)
    obtain ⟨_, e3⟩ := HT2.out.cells 3 (by omega)
    generalize Tk 4 = y4 at d4
    have ne' : ¬ tb = eb := fun e => ne e.symm
    go_wp2_with fail
    go_end0
    refine ⟨rfl, own_of HO2.out (fun k h => ?_), ?_, ?_, ?_⟩
    · have : k = g := by injection h with h; exact h.symm
      subst this
      show ((World.setCell _ _ _).setCell _ _).heap[k]? = _
      rw [Below.heap_setCell _ _ _ _ gt, Below.heap_setCell _ _ _ _ gt, Below.heap_setCell _ _ _ _ ge]
    · exact ((HE2.out.upd 33 _).off ne).off ne
    · exact ((HT2.out.off (fun e => ne e.symm)).upd 3 _).upd 4 _
    · exact only_setCell (only_setCell (only_setCell (only_grown HG2.out (Or.inr (Or.inr rfl))) (Or.inl (Or.inl rfl)) _) (Or.inl (Or.inr (Or.inl rfl))) _) (Or.inl (Or.inr (Or.inl rfl))) _
set_option maxRecDepth 100000 in
set_option maxHeartbeats 1000000 in
/-- A task that stands nowhere goes to the end of the queue, which is empty. -/
theorem insert32_room (eb tb qb cap base : Nat) (E Tk : Nat → Value) (w : World) (hE : Full w eb 144 44 44 E) (hE32 : E 33 = .slice (some ⟨qb, 0, none⟩) 0 cap) (hT : Full w tb 160 7 7 Tk) (hT3 : Tk 3 = .pointer none)
    (hown : w.ownsRow base 155 1 (.slice (some ⟨qb, 0, none⟩) 0 cap) 0 []) (hcap : 0 < cap) (hb : base ≤ w.heap.size) :
    Calls Tryz.prog 166 #[Pt eb 33, .int .i64 0, P0 tb] w fun e w' => e = .returned (.tuple #[]) ∧ w'.ownsRow base 155 1 (.slice (some ⟨qb, 0, none⟩) 1 cap) 1 [P0 tb] ∧ Full w' eb 144 44 44 (upd E 33 (.slice (some ⟨qb, 0, none⟩) 1 cap)) ∧ Full w' tb 160 7 7 (upd (upd Tk 2 (.bool false)) 3 (Pt eb 33)) ∧ Only (fun k => k = eb ∨ k = tb ∨ (Value.slice (some ⟨qb, 0, none⟩) 0 cap).ownBlock = some k) w w' := by
  have ne : eb ≠ tb := hE.ne hT (by decide)
  obtain ⟨c32, z32⟩ := hE.cells 33 (by omega)
  obtain ⟨c2, z2⟩ := hT.cells 2 (by omega)
  obtain ⟨c3, z3⟩ := hT.cells 3 (by omega)
  rw [hE32] at c32
  rw [hT3] at c3
  generalize Tk 2 = y2 at c2
  have le := hE.lt
  have lt := hT.lt
  have HE : Hid (Full w eb 144 44 44 E) := hE
  have HT : Hid (Full w tb 160 7 7 Tk) := hT
  have HO : Hid (w.ownsRow base 155 1 (.slice (some ⟨qb, 0, none⟩) 0 cap) 0 []) := hown
  have HC : Hid (0 < cap) := hcap
  clear hE hT hown hcap hE32 hT3
  go_enter Tryz.func166, Tryz.ntmps166
  go_wp2_with fail
  refine (stepOut_none tb w c3).mono ?_
  rintro e w1 ⟨rfl, rfl⟩
  go_wp2_with fail
  have hk : ∀ k, (Value.slice (some ⟨qb, 0, none⟩) 0 cap).ownBlock = some k → k ≠ eb ∧ k ≠ tb ∧ k < w1.heap.size := fun k hk => ⟨own_ne HO.out HE.out (by decide) k hk, own_ne HO.out HT.out (by decide) k hk, (own_ty HO.out k hk).2.1⟩
  refine (sinsert_room qb cap base w1.heap.size (P0 tb) rfl _ (own_of HO.out (fun k h => ?_)) (by simp [go_sem]) (by simp [World.setCell]; omega) HC.out).mono ?_
  · rw [Below.heap_alloc _ _ _ (by simp [World.setCell]; exact (hk k h).2.2), Below.heap_setCell _ _ _ _ (hk k h).2.1, Below.heap_setCell _ _ _ _ (hk k h).2.1]
  rintro e w2 ⟨rfl, ho2, hg2⟩
  have hz := hg2.size
  simp [World.setCell] at hz
  have HE2 : Hid (Full w2 eb 144 44 44 E) := (((HE.out.off ne).off ne).block (Below.heap_alloc _ _ _ (by simp [World.setCell]; omega))).block (hg2.block eb (by simp [World.setCell]; omega) (fun h => (hk eb h.symm).1 rfl))
  have HT2 : Hid (Full w2 tb 160 7 7 (upd (upd Tk 2 (.bool false)) 3 (Pt eb 33))) := (((HT.out.upd 2 _).upd 3 _).block (Below.heap_alloc _ _ _ (by simp [World.setCell]; omega))).block (hg2.block tb (by simp [World.setCell]; omega) (fun h => (hk tb h.symm).2.1 rfl))
  have KO : Hid (Only (fun k => k = eb ∨ k = tb ∨ (Value.slice (some ⟨qb, 0, none⟩) 0 cap).ownBlock = some k) w1 w2) := by
    refine Only.trans (S1 := fun k => (Value.slice (some ⟨qb, 0, none⟩) 0 cap).ownBlock = some k) (w1 := ((w1.setCell ⟨tb, 2, none⟩ (.bool false)).setCell ⟨tb, 3, none⟩ (Pt eb 33)).alloc (.cells #[P0 tb] 155)) ?_ ⟨hg2.os, hg2.tape, hg2.output, hg2.size, fun k hk hn => hg2.block k hk (fun e => hn e.symm)⟩ (fun k h _ => Or.inr (Or.inr h))
    exact only_alloc (only_setCell (only_setCell (only_refl _ _) (Or.inl (Or.inr (Or.inl rfl))) _) (Or.inl (Or.inr (Or.inl rfl))) _) _
  have KW : Hid (w2.ownsRow base 155 1 (.slice (some ⟨qb, 0, none⟩) 1 cap) 1 [P0 tb]) := ho2
  obtain ⟨d32, e32⟩ := HE2.out.cells 33 (by omega)
  have le2 : eb < w2.heap.size := by omega
  generalize E 33 = y32 at d32
  clear hg2 ho2 c32 z32 c2 z2 c3 z3
  go_wp2_with fail
  go_end0
  refine ⟨rfl, own_of KW.out (fun k h => ?_), HE2.out.upd 33 _, HT2.out.off (fun e => ne e.symm), only_setCell KO.out (Or.inl (Or.inl rfl)) _⟩
  exact Below.heap_setCell _ _ _ _ (own_ne KW.out HE2.out (by decide) k h)

/-- A task that stands nowhere goes among those that sleep, of whom there is none. -/
theorem insert32 (eb tb cap : Nat) (ad : Option Addr) (E Tk : Nat → Value) (w : World) (hE : Full w eb 144 44 44 E) (hE32 : E 33 = .slice ad 0 cap) (hT : Full w tb 160 7 7 Tk) (hT3 : Tk 3 = .pointer none)
    (hown : w.ownsRow 0 155 1 (.slice ad 0 cap) 0 []) (hcap : ad ≠ none → 0 < cap) :
    Calls Tryz.prog 166 #[Pt eb 33, .int .i64 0, P0 tb] w fun e w' => e = .returned (.tuple #[]) ∧ ∃ zb zc, w'.ownsRow 0 155 1 (.slice (some ⟨zb, 0, none⟩) 1 zc) 1 [P0 tb] ∧ Full w' eb 144 44 44 (upd E 33 (.slice (some ⟨zb, 0, none⟩) 1 zc)) ∧ Full w' tb 160 7 7 (upd (upd Tk 2 (.bool false)) 3 (Pt eb 33)) ∧ Only (fun k => k = eb ∨ k = tb ∨ (Value.slice ad 0 cap).ownBlock = some k) w w' ∧ ((Value.slice ad 0 cap).ownBlock = some zb ∨ w.heap.size ≤ zb) := by
  rcases hown.2 with ⟨h, _⟩ | ⟨g, c, cur, h, _⟩
  · injection h with h1 h2 h3
    subst h1 h3
    refine (insert32_any eb tb 0 w.heap.size none E Tk w hE hE32 hT hT3 (World.ownsRow_nil _ _ _ _) (fun h => absurd rfl h) (Nat.le_refl _)).mono ?_
    rintro e w' ⟨rfl, g, c, h1, h2, h3, h4⟩
    refine ⟨rfl, g, c, ?_, h2, h3, h4, Or.inr (own_ty h1 g rfl).1⟩
    rcases h1 with ⟨a, b | ⟨g', c', cur, b1, b2, b3⟩⟩
    · exact ⟨a, Or.inl b⟩
    · exact ⟨a, Or.inr ⟨g', c', cur, b1, Nat.zero_le _, b3⟩⟩
  · injection h with h1 h2 h3
    subst h1 h3
    refine (insert32_room eb tb g cap 0 E Tk w hE hE32 hT hT3 hown (hcap (by simp)) (by omega)).mono ?_
    rintro e w' ⟨rfl, h1, h2, h3, h4⟩
    exact ⟨rfl, g, cap, h1, h2, h3, h4, Or.inl rfl⟩
end Go.Proofs.YtnjiinbhbjpfkaaGreatDoor

/-
  The instruction Sleep.
-/
namespace Go.Proofs.YtnjiinbhbjpfkaaGreatDoor
open Go.RowKit

/-- What Sleep leaves. -/
def Slept (w w' : World) (eb tb sc : Nat) (sa : Option Addr) (clk x : Int) (E Tk : Nat → Value) : Prop :=
  ∃ zb zc, w'.ownsRow 0 155 1 (.slice (some ⟨zb, 0, none⟩) 1 zc) 1 [P0 tb] ∧ Full w' eb 144 44 44 (upd E 33 (.slice (some ⟨zb, 0, none⟩) 1 zc)) ∧ Full w' tb 160 7 7 (upd (upd (upd Tk 5 (.int .i64 (B.aft clk x))) 2 (.bool false)) 3 (Pt eb 33)) ∧ Only (fun k => k = eb ∨ k = tb ∨ (Value.slice sa 0 sc).ownBlock = some k) w w' ∧ ((Value.slice sa 0 sc).ownBlock = some zb ∨ w.heap.size ≤ zb)
theorem Slept.pre {w w1 w' : World} {eb tb sc : Nat} {sa : Option Addr} {clk x : Int} {E Tk : Nat → Value} (hg : w.grownBy w1 none) (h : Slept w1 w' eb tb sc sa clk x E Tk) : Slept w w' eb tb sc sa clk x E Tk := by
  obtain ⟨zb, zc, h1, h2, h3, h4, h5⟩ := h
  exact ⟨zb, zc, h1, h2, h3, (only_none hg).trans h4 (fun _ h _ => h), h5.imp id (fun h => Nat.le_trans hg.size h)⟩

set_option maxRecDepth 100000 in
set_option maxHeartbeats 2000000 in
theorem esleep_any (eb tb sc : Nat) (sa : Option Addr) (clk x : Int) (E Tk : Nat → Value) (w : World) (hE : Full w eb 144 44 44 E) (h27 : E 28 = .int .i64 clk) (h32 : E 33 = .slice sa 0 sc) (hT : Full w tb 160 7 7 Tk) (hT3 : Tk 3 = .pointer none)
    (hown : w.ownsRow 0 155 1 (.slice sa 0 sc) 0 []) (hcap : sa ≠ none → 0 < sc) (c0 : 0 ≤ clk) (c1 : clk ≤ 9223372036854775807) :
    Calls Tryz.prog 168 #[P0 eb, P0 tb, .int .i64 x] w fun e w' => e = .returned (.tuple #[]) ∧ Slept w w' eb tb sc sa clk x E Tk := by
  have KE := hid hE
  have KT := hid hT
  have HF := hid (And.intro h27 (And.intro h32 (And.intro hT3 (And.intro hown hcap))))
  have ne : eb ≠ tb := hE.ne hT (by decide)
  have c27 := hE.cell 28 (by omega)
  rw [h27] at c27
  have le := hE.lt
  have lt := hT.lt
  have HC := hid (And.intro c0 c1)
  clear hE hT h27 h32 hT3 hown hcap c0 c1
  go_enter Tryz.func168, Tryz.ntmps168
  go_wp2_with fail
  have KG1 := hid (World.grownBy_alloc w (.cells #[P0 tb] 155) none)
  have hx := heap_alloc_new w (.cells #[P0 tb] 155)
  have hz1 : (w.alloc (.cells #[P0 tb] 155)).heap.size = w.heap.size + 1 := by simp
  generalize hW : w.alloc (.cells #[P0 tb] 155) = w1 at *
  have x0 : w1.cell? ⟨w.heap.size, 0, none⟩ = some (P0 tb) := by simp [World.cell?, hx]
  have HX := hid hx
  clear hW hx
  have KE1 := hid (KE.out.block (KG1.out.block eb le (by intro e; cases e)))
  have KT1 := hid (KT.out.block (KG1.out.block tb lt (by intro e; cases e)))
  have c27' := KE1.out.cell 28 (by omega)
  rw [HF.out.1] at c27'
  obtain ⟨d5, z5⟩ := KT1.out.cells 5 (by omega)
  generalize Tk 5 = y5 at d5
  have le1 := KE1.out.lt
  have lt1 := KT1.out.lt
  have hxt : w.heap.size ≠ tb := by omega
  have hxt2 : ¬ tb = w.heap.size := by omega
  have haf := hid (fun w' h => after_gen eb clk x w' h HC.out.1 HC.out.2)
  clear c27
  go_region_with (go_at_call 64; refine (haf.out _ (by first | exact c27' | (show w1.cell? _ = _; exact c27'))).mono ?_; rintro e w2 ⟨rfl, rfl⟩)
  all_goals
    have c32 := KE1.out.cell 33 (by omega)
    rw [HF.out.2.1] at c32
    have z153 : w.heap.size < w1.heap.size := by omega
    have KE2 : Hid (Full (w1.setCell ⟨tb, 5, none⟩ (.int .i64 (B.aft clk x))) eb 144 44 44 E) := KE1.out.off ne
    have KT2 : Hid (Full (w1.setCell ⟨tb, 5, none⟩ (.int .i64 (B.aft clk x))) tb 160 7 7 (upd Tk 5 (.int .i64 (B.aft clk x)))) := KT1.out.upd 5 _
    have KO2 : Hid ((w1.setCell ⟨tb, 5, none⟩ (.int .i64 (B.aft clk x))).ownsRow 0 155 1 (.slice sa 0 sc) 0 []) := own_of HF.out.2.2.2.1 (fun k hk => (Below.heap_setCell _ _ _ _ (own_ne HF.out.2.2.2.1 KT.out (by decide) k hk)).trans (KG1.out.block k (own_ty HF.out.2.2.2.1 k hk).2.1 (by intro e; cases e)))
    have KN2 : Hid (Only (fun k => k = eb ∨ k = tb ∨ (Value.slice sa 0 sc).ownBlock = some k) w (w1.setCell ⟨tb, 5, none⟩ (.int .i64 (B.aft clk x)))) := only_setCell (only_none KG1.out) (Or.inl (Or.inr (Or.inl rfl))) _
    have d32 := KE2.out.cell 33 (by omega)
    rw [HF.out.2.1] at d32
    have x2 : (w1.setCell ⟨tb, 5, none⟩ (.int .i64 (B.aft clk x))).cell? ⟨w.heap.size, 0, none⟩ = some (P0 tb) := by rw [World.cell?_of_block (a := ⟨w.heap.size, 0, none⟩) (Below.heap_setCell _ _ _ _ hxt)]; exact x0
    have hz2 : (w1.setCell ⟨tb, 5, none⟩ (.int .i64 (B.aft clk x))).heap.size = w1.heap.size := by simp [World.setCell]
    generalize hw2 : w1.setCell ⟨tb, 5, none⟩ (.int .i64 (B.aft clk x)) = w2 at *
    have le2 := KE2.out.lt
    have lx2 : w.heap.size < w2.heap.size := by omega
    clear hw2 c27' d5 z5 c32 x0 haf
    go_wp2_with fail
    refine (indexF_none _ sa sc _).mono ?_
    rintro e w3 ⟨rfl, rfl⟩
    go_wp2_with fail
    go_region_with (go_at_call 166; refine (insert32 eb tb sc sa E (upd Tk 5 (.int .i64 (B.aft clk x))) _ (by first | exact KE2.out | (show Full w2 _ _ _ _ _; exact KE2.out)) HF.out.2.1 (by first | exact KT2.out | (show Full w2 _ _ _ _ _; exact KT2.out)) HF.out.2.2.1 (by first | exact KO2.out | (show w2.ownsRow _ _ _ _ _ _; exact KO2.out)) HF.out.2.2.2.2).mono ?_; rintro e w4 ⟨rfl, zb, zc, h1, h2, h3, h4, h5⟩; have HR : Hid (Slept w w4 eb tb sc sa clk x E Tk) := ⟨zb, zc, h1, h2, h3, KN2.out.trans (show Only _ w2 w4 from h4) (fun _ h _ => h), h5.imp id (fun h => (by have h' : w2.heap.size ≤ zb := h; omega))⟩; clear h1 h2 h3 h4 h5)
    all_goals
      go_wp2_with fail
      go_end0
      exact ⟨rfl, HR.out⟩

set_option maxRecDepth 100000 in
theorem ssleep_any (op a b c fb tb eb sc : Nat) (sa : Option Addr) (clk x : Int) (E Tk : Nat → Value) (w : World) (hE : Full w eb 144 44 44 E) (h27 : E 28 = .int .i64 clk) (h32 : E 33 = .slice sa 0 sc) (hT : Full w tb 160 7 7 Tk) (hT3 : Tk 3 = .pointer none)
    (hown : w.ownsRow 0 155 1 (.slice sa 0 sc) 0 []) (hcap : sa ≠ none → 0 < sc) (c0 : 0 ≤ clk) (c1 : clk ≤ 9223372036854775807) :
    Calls Tryz.prog 112 #[stepV op a b c fb tb eb, .int .i64 x] w fun e w' => e = .returned (.int .i64 0) ∧ Slept w w' eb tb sc sa clk x E Tk := by
  have KE := hid hE
  have KT := hid hT
  have HF := hid (And.intro h27 (And.intro h32 (And.intro hT3 (And.intro hown hcap))))
  have HC := hid (And.intro c0 c1)
  clear hE hT h27 h32 hT3 hown hcap c0 c1
  go_enter Tryz.func112, Tryz.ntmps112
  go_wp2_with fail
  have KG1 := hid (World.grownBy_alloc w (.cells #[.int .u8 (op : Int), .int .u8 (a : Int), .int .u8 (b : Int), .int .u8 (c : Int), P0 fb, P0 tb, P0 eb] 186) none)
  have hk : ∀ k, k < w.heap.size → (w.alloc (.cells #[.int .u8 (op : Int), .int .u8 (a : Int), .int .u8 (b : Int), .int .u8 (c : Int), P0 fb, P0 tb, P0 eb] 186)).heap[k]? = w.heap[k]? := fun k hk => KG1.out.block k hk (by intro e; cases e)
  refine (esleep_any eb tb sc sa clk x E Tk _ (KE.out.block (hk _ KE.out.lt)) HF.out.1 HF.out.2.1 (KT.out.block (hk _ KT.out.lt)) HF.out.2.2.1 (own_of HF.out.2.2.2.1 (fun k h => hk k (own_ty HF.out.2.2.2.1 k h).2.1)) HF.out.2.2.2.2 HC.out.1 HC.out.2).mono ?_
  rintro e w2 ⟨rfl, h⟩
  have HH := hid (Slept.pre KG1.out h)
  clear h hk
  go_wp2_with fail
  go_ret
  exact ⟨rfl, HH.out⟩

set_option maxRecDepth 100000 in
set_option maxHeartbeats 1000000 in
/-- Sleep. -/
theorem act17_any (op a b c fb tb eb cb L nx rb nr sc v1 v2 : Nat) (sa : Option Addr) (clk : Int) (back : Value) (R : Nat → B.V) (ha : a < nr) (E Tk : Nat → Value) (w : World) (hF : Fr w fb cb L nx rb nr back R) (hE : Full w eb 144 44 44 E) (h27 : E 28 = .int .i64 clk) (h32 : E 33 = .slice sa 0 sc) (hT : Full w tb 160 7 7 Tk) (hT3 : Tk 3 = .pointer none)
    (hown : w.ownsRow 0 155 1 (.slice sa 0 sc) 0 []) (hcap : sa ≠ none → 0 < sc) (c0 : 0 ≤ clk) (c1 : clk ≤ 9223372036854775807) (hv1 : w.heap[v1]? = some (.cells #[Fv 98 #[]] 187 (0, 0))) (hv2 : w.heap[v2]? = some (.cells #[Fv 112 #[]] 202 (0, 0))) :
    Calls Tryz.prog 167 #[stepV op a b c fb tb eb, P0 v1, P0 v2] w fun e w' => ((R a).1 = 0 ∧ e = .returned (.int .i64 0) ∧ Slept w w' eb tb sc sa clk (R a).2 E Tk) ∨ ((R a).1 ≠ 0 ∧ e = .returned (.int .i64 1) ∧ w.grownBy w' none) := by
  have KF := hid hF
  have KE := hid hE
  have KT := hid hT
  have KO := hid hown
  have HF := hid (And.intro h27 (And.intro h32 (And.intro hT3 (And.intro hcap (And.intro c0 c1)))))
  have d1 : w.cell? ⟨v1, 0, none⟩ = some (Fv 98 #[]) := by simp [World.cell?, hv1]
  have lv1 := heap_lt hv1
  have HV2 := hid hv2
  clear hF hE hT hown h27 h32 hT3 hcap c0 c1 hv1 hv2
  go_enter Tryz.func167, Tryz.ntmps167
  go_wp2_with fail
  have HX1 := hid (s7_new w op a b c fb tb eb)
  have KG1 := hid (World.grownBy_alloc w (.cells #[.int .u8 (op : Int), .int .u8 (a : Int), .int .u8 (b : Int), .int .u8 (c : Int), P0 fb, P0 tb, P0 eb] 186) none)
  generalize hW : w.alloc (.cells #[.int .u8 (op : Int), .int .u8 (a : Int), .int .u8 (b : Int), .int .u8 (c : Int), P0 fb, P0 tb, P0 eb] 186) = w1 at *
  clear hW
  refine (a_any op a b c fb tb eb cb L nx rb nr back R w1 (KF.out.kept KG1.out).1 (KF.out.kept KG1.out).2.1 ha).mono ?_
  rintro e w2 ⟨rfl, hg2⟩
  have KG2 := hid (grown_trans KG1.out hg2)
  have HX2 := hid (grown_out hg2 HX1.out)
  clear hg2
  go_wp2_with fail
  refine (vnumber_any (R a) _).mono ?_
  rintro e w3 ⟨rfl, hg3⟩
  have KG3 := hid (grown_trans KG2.out hg3)
  have HX3 := hid (grown_out hg3 HX2.out)
  clear hg3
  by_cases h0 : (R a).1 = 0
  · have hd : decide ((R a).1 = 0) = true := by simpa using h0
    simp only [hd]
    have H0 := hid h0
    clear h0 hd
    obtain ⟨x0, x1, x2, x3, x4, x5, x6⟩ := s7_of HX3.out
    have lx := heap_lt HX3.out
    have hv := grown_out KG3.out HV2.out
    have d2 : w3.cell? ⟨v2, 0, none⟩ = some (Fv 112 #[]) := by simp [World.cell?, hv]
    have lv2 := heap_lt hv
    clear hv
    go_wp2_with fail
    have hk : ∀ k, k < w.heap.size → w3.heap[k]? = w.heap[k]? := fun k hk => KG3.out.block k hk (by intro e; cases e)
    refine (ssleep_any op a b c fb tb eb sc sa clk (R a).2 E Tk w3 (KE.out.block (hk _ KE.out.lt)) HF.out.1 HF.out.2.1 (KT.out.block (hk _ KT.out.lt)) HF.out.2.2.1 (own_of KO.out (fun k h => hk k (own_ty KO.out k h).2.1)) HF.out.2.2.2.1 HF.out.2.2.2.2.1 HF.out.2.2.2.2.2).mono ?_
    rintro e w4 ⟨rfl, h⟩
    have HH := hid (Slept.pre KG3.out h)
    clear h hk x0 x1 x2 x3 x4 x5 x6 d2
    go_wp2_with fail
    go_ret
    exact Or.inl ⟨H0.out, rfl, HH.out⟩
  · have hd : decide ((R a).1 = 0) = false := by simpa using h0
    simp only [hd]
    have H0 := hid h0
    clear h0 hd
    go_wp2_with fail
    go_ret
    exact Or.inr ⟨H0.out, rfl, KG3.out⟩

end Go.Proofs.YtnjiinbhbjpfkaaGreatDoor
