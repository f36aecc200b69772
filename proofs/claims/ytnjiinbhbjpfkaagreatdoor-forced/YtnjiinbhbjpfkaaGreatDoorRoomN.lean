/-
  One instruction of a task, whichever it is.
-/
import Derived.Test.YtnjiinbhbjpfkaaGreatDoorRoomM
import Derived.Test.YtnjiinbhbjpfkaaGreatDoorRoomJ
import Derived.Test.YtnjiinbhbjpfkaaGreatDoorRoomL
import Derived.Test.YtnjiinbhbjpfkaaGreatDoorRoomA
import Derived.Defers
import Derived.Laws.LoneSync
namespace Go.Proofs.YtnjiinbhbjpfkaaGreatDoor
open Go.RowKit

theorem runOne_any (g : Geo) (C : List B.In) (q : Nat) (kd : B.Kd) (vb : Vs) (s : B.St) (E Tk : Nat → Value) (bs qb cq : Nat) (ad : Option Addr) (ne cap : Nat) (ev : List B.Ev) (w : World) (hR : Run w g C q kd vb s E Tk) (hm : Mid w g E Tk bs qb cq ad ne cap ev) (hne : ne ≤ 100000) :
    Calls Tryz.prog 134 #[P0 g.eb, P0 g.tb] w fun e w' => e = .returned (.tuple #[]) ∧ Oned w w' g C q kd vb Tk bs qb cq ad ne cap ev s := by
  by_cases hs : s.1 = C.length
  · exact oneEnd g C q kd vb s E Tk bs qb cq ad ne cap ev w hR hm hne hs
  · have hlt : s.1 < C.length := by have := hR.hp; omega
    obtain ⟨⟨op, a, b, c⟩, hi⟩ : ∃ i, C[s.1]? = some i := ⟨_, List.getElem?_eq_getElem hlt⟩
    have hok2 : okIn2 g.nr C.length (op, a, b, c) = true := List.all_eq_true.1 hR.ok.2.2.2.2 _ (List.mem_of_getElem? hi)
    have hA := hR.eE.eA
    rcases okIn2_ops hok2 with ⟨rfl, rfl, rfl, rfl⟩ | ⟨rfl, h1, rfl, rfl⟩ | ⟨rfl, h1, rfl, rfl⟩ | hok
    · exact one150 16 0 0 0 (g.ac + 20) g C q kd vb s E Tk bs qb cq ad ne cap ev w hR hm hne hi (by omega) (hA 20 (by omega) (by omega)) (fun w1 h2 h3 => do16 h2 h3)
    · exact one154 17 a 0 0 (g.ac + 21) (g.ac + 22) g C q kd vb s E Tk bs qb cq ad ne cap ev w hR hm hne hi (by omega) (hA 21 (by omega) (by omega)) (fun w1 h2 h3 => do17 a h2 h3 h1 hi)
    · exact one150 22 a 0 0 (g.ac + 32) g C q kd vb s E Tk bs qb cq ad ne cap ev w hR hm hne hi (by omega) (hA 26 (by omega) (by omega)) (fun w1 h2 h3 => do22 a 0 0 h2 h3 h1)
    rcases okIn_ops hok with rfl | rfl | rfl | rfl | rfl | rfl | rfl | rfl | rfl | rfl | rfl
    · exact one150 0 a b c (g.ac + 2) g C q kd vb s E Tk bs qb cq ad ne cap ev w hR hm hne hi (by omega) (hA 4 (by omega) (by omega)) (fun w1 h1 h2 => do0 a b c h1 h2 hok)
    · exact one150 1 a b c (g.ac + 4) g C q kd vb s E Tk bs qb cq ad ne cap ev w hR hm hne hi (by omega) (hA 5 (by omega) (by omega)) (fun w1 h1 h2 => do1 a b c h1 h2 hok)
    · exact one140 3 a b c (g.ac + 6) g C q kd vb s E Tk bs qb cq ad ne cap ev w hR hm hne hi (by omega) (hA 7 (by omega) (by omega)) (fun w1 h1 h2 => do3 a b c h1 h2 hok)
    · exact one150 6 a b c (g.ac + 10) g C q kd vb s E Tk bs qb cq ad ne cap ev w hR hm hne hi (by omega) (hA 10 (by omega) (by omega)) (fun w1 h1 h2 => do6 a b c h1 h2 hok)
    · exact one150 7 a b c (g.ac + 12) g C q kd vb s E Tk bs qb cq ad ne cap ev w hR hm hne hi (by omega) (hA 11 (by omega) (by omega)) (fun w1 h1 h2 => do7 a b c h1 h2 hok)
    · exact one150 8 a b c (g.ac + 14) g C q kd vb s E Tk bs qb cq ad ne cap ev w hR hm hne hi (by omega) (hA 12 (by omega) (by omega)) (fun w1 h1 h2 => do8 a b c h1 h2 hok)
    · exact one150 9 a b c (g.ac + 16) g C q kd vb s E Tk bs qb cq ad ne cap ev w hR hm hne hi (by omega) (hA 13 (by omega) (by omega)) (fun w1 h1 h2 => do9 a b c h1 h2 hne hok)
    · exact one94 10 a b c g C q kd vb s E Tk bs qb cq ad ne cap ev w hR hm hne hi (by omega) (hA 14 (by omega) (by omega)) (fun w1 h1 h2 => do10 a b c h1 h2 hok)
    · exact one95 11 a b c g C q kd vb s E Tk bs qb cq ad ne cap ev w hR hm hne hi (by omega) (hA 15 (by omega) (by omega)) (fun w1 h1 h2 => do11 a b c h1 h2 hok)
    · exact one150 14 a b c (g.ac + 19) g C q kd vb s E Tk bs qb cq ad ne cap ev w hR hm hne hi (by omega) (hA 18 (by omega) (by omega)) (fun w1 h1 h2 => do14 a b c h1 h2 hne hok)
    · exact one154 20 a b c (g.ac + 27) (g.ac + 28) g C q kd vb s E Tk bs qb cq ad ne cap ev w hR hm hne hi (by omega) (hA 24 (by omega) (by omega)) (fun w1 h1 h2 => do20 a b c h1 h2 hne hok)
end Go.Proofs.YtnjiinbhbjpfkaaGreatDoor

/-
  What lies in the memory of a machine between two turns; and that it stays where its own blocks do.
-/
namespace Go.Proofs.YtnjiinbhbjpfkaaGreatDoor
open Go.RowKit

/-- The blocks of an engine. -/
def FE (g : Geo) (qb : Nat) (kd : B.Kd) (vb : Vs) (k : Nat) : Prop :=
  (k = g.eb ∨ k = g.tb ∨ k = g.lb ∨ k = g.ob ∨ k = g.xe ∨ k = g.xt ∨ k = g.kb ∨ k = g.fb ∨ k = g.cb ∨ k = g.rb ∨ k = g.sb ∨ k = g.pb) ∨ k = qb ∨ (g.ac + 1 ≤ k ∧ k < g.ac + 33) ∨ Own g.n kd vb k ∨ (Value.slice g.sa 0 g.sc).ownBlock = some k

/-- An engine whose task waits in the queue. -/
structure Que (w : World) (g : Geo) (C : List B.In) (q : Nat) (kd : B.Kd) (vb : Vs) (s : B.St) (E Tk : Nat → Value) (qb cq : Nat) : Prop where
  hR : Run w g C q kd vb s E Tk
  t2 : Tk 2 = .bool false
  t3 : Tk 3 = Pt g.eb 32
  e31 : E 32 = .slice (some ⟨qb, 0, none⟩) 1 cq
  o31 : w.ownsRow 0 155 1 (.slice (some ⟨qb, 0, none⟩) 1 cq) 1 [P0 g.tb]
  e42 : E 43 = .slice none 0 0
  h1 : g.lb ≠ qb
  h2 : g.xt ≠ qb
  hq : 1 ≤ q ∧ q ≤ 50
  e32 : E 33 = .slice g.sa 0 g.sc
  o32 : w.ownsRow 0 155 1 (.slice g.sa 0 g.sc) 0 []
  h32 : g.sa ≠ none → 0 < g.sc
  n32 : ∀ k, (Value.slice g.sa 0 g.sc).ownBlock = some k → k ≠ g.lb ∧ k ≠ g.xt ∧ k ≠ qb

/-- A machine's block, not locked. -/
def Box (w : World) (mb eb : Nat) : Prop := ∃ x, w.heap[mb]? = some (.cells #[.int .i32 0, x, P0 eb] 105 (0, 0))

def Mach : MachT := fun w mb F C nr n q s r =>
  (r = 0 ∧ ∃ g kd vb E Tk qb cq, g.nr = nr ∧ g.n = n ∧ g.clk = 0 ∧ okCode nr C ∧ Que w g C q kd vb s E Tk qb cq ∧ Box w mb g.eb ∧ F mb ∧ ¬ FE g qb kd vb mb ∧ ∀ k, FE g qb kd vb k → F k) ∨
  ((r = 1 ∨ r = 2) ∧ ∃ eb E, Full w eb 144 44 44 E ∧ Off 0 E r ∧ E 43 = .slice none 0 0 ∧ Box w mb eb ∧ F mb ∧ F eb)

section
variable {w w' : World} {g : Geo} {C : List B.In} {q : Nat} {kd : B.Kd} {vb : Vs} {s : B.St} {E Tk : Nat → Value} {qb cq : Nat}
theorem actB_len (b k : Nat) (x : Value × TypeId) (h : (actB b)[k]? = some x) : k < 32 := by
  have := (List.getElem?_eq_some_iff.1 h).1
  simpa [actB] using this
theorem Run.same (h : Run w g C q kd vb s E Tk) (hk : ∀ k, FE g qb kd vb k → w'.heap[k]? = w.heap[k]?) : Run w' g C q kd vb s E Tk := by
  have hb : ∀ k, (k = g.eb ∨ k = g.tb ∨ k = g.lb ∨ k = g.ob ∨ k = g.xe ∨ k = g.xt ∨ k = g.kb ∨ k = g.fb ∨ k = g.cb ∨ k = g.rb ∨ k = g.sb ∨ k = g.pb) → w'.heap[k]? = w.heap[k]? := fun k h => hk k (Or.inl h)
  have ho : ∀ {base size n : Nat} {e : TypeId} {b m c : Nat} {xs : List Value}, w.ownsRow base e size (.slice (some ⟨b, 0, none⟩) m c) n xs → w'.heap[b]? = w.heap[b]? → w'.ownsRow base e size (.slice (some ⟨b, 0, none⟩) m c) n xs := by
    intro base size n e b m c xs h1 h2
    refine own_of h1 (fun k hb => ?_)
    have : b = k := by injection hb
    subst this; exact h2
  have hK := h.hK
  exact {
    hK := { hT := hK.hT.block (hb _ (by omega)), t0 := hK.t0, t1 := hK.t1, t6 := hK.t6, o28 := ho hK.o28 (hb _ (by omega)), o29 := ho hK.o29 (hb _ (by omega)), oK := ho hK.oK (hb _ (by omega)), hxe := (hb _ (by omega)).trans hK.hxe, hxt := (hb _ (by omega)).trans hK.hxt, hC := hK.hC.block (hb _ (by omega)),
            hA := fun k x hx => (hk _ (Or.inr (Or.inr (Or.inl (by have := actB_len _ k x hx; omega))))).trans (hK.hA k x hx) }
    hE := h.hE.block (hb _ (by omega))
    eE := h.eE
    hF := ⟨(hb _ (by omega)).trans h.hF.1, h.hF.2.1.block (hb _ (by omega)), h.hF.2.2⟩
    hS := h.hS.block (hb _ (by omega)) (hb _ (by omega)) (fun k ho => hk _ (Or.inr (Or.inr (Or.inr (Or.inl ho)))))
    hH := h.hH, ok := h.ok, hn := h.hn, hp := h.hp, hvr := h.hvr, hro := h.hro }
theorem Que.same (h : Que w g C q kd vb s E Tk qb cq) (hk : ∀ k, FE g qb kd vb k → w'.heap[k]? = w.heap[k]?) : Que w' g C q kd vb s E Tk qb cq :=
  { hR := h.hR.same hk, t2 := h.t2, t3 := h.t3, e31 := h.e31, e42 := h.e42, h1 := h.h1, h2 := h.h2, hq := h.hq, e32 := h.e32, h32 := h.h32, n32 := h.n32,
    o32 := own_of h.o32 (fun k hb => hk _ (Or.inr (Or.inr (Or.inr (Or.inr hb))))),
    o31 := own_of h.o31 (fun k hb => by
      have : qb = k := by injection hb
      subst this; exact hk _ (Or.inr (Or.inl rfl))) }
end

theorem keep_ok : KeepOk Mach := by
  rintro C nr n q mb F s r w w' (⟨hr, g, kd, vb, E, Tk, qb, cq, h1, h2, h8, h9, h3, ⟨x, h4⟩, h5, h7, h6⟩ | ⟨hr, eb, E, h1, h2, h3, ⟨x, h4⟩, h5, h6⟩) hk
  · exact Or.inl ⟨hr, g, kd, vb, E, Tk, qb, cq, h1, h2, h8, h9, h3.same (fun k h => hk k (h6 k h)), ⟨x, (hk mb h5).trans h4⟩, h5, h7, h6⟩
  · exact Or.inr ⟨hr, eb, E, h1.block (hk eb h6), h2, h3, ⟨x, (hk mb h5).trans h4⟩, h5, h6⟩

theorem good_ok : GoodOk Tab := fun _ _ h hb => h.below hb
end Go.Proofs.YtnjiinbhbjpfkaaGreatDoor

/-
  The queue's only task steps out of it, or goes back to it: what stays; and what a turn of it leaves.
-/
namespace Go.Proofs.YtnjiinbhbjpfkaaGreatDoor
open Go.RowKit

/-- The task sleeps. -/
def Zs (w w' : World) (g : Geo) (C : List B.In) (q : Nat) (s' : B.St) (kd' : B.Kd) (vb' : Vs) (E' : Nat → Value) (qb cq : Nat) : Prop :=
  ∃ Tk' zb zc U a, C[s'.1 - 1]? = some (17, a, 0, 0) ∧ U = B.aft g.clk (s'.2.1 a).2 ∧ (s'.2.1 a).1 = 0 ∧ Zzz w' g C q kd' vb' s' E' Tk' qb cq zb zc U ∧ ((Value.slice g.sa 0 g.sc).ownBlock = some zb ∨ w.heap.size ≤ zb)
/-- What a turn of the only task leaves. -/
def Turned (w w' : World) (g : Geo) (C : List B.In) (q : Nat) (kd : B.Kd) (vb : Vs) (s : B.St) (qb cq : Nat) : Prop :=
  ∃ s' kd' r ev, B.Runs3 g.clk C g.nr g.n q s kd s' kd' r ev ∧ Only (FE g qb kd vb) w w' ∧
    ((r = 0 ∧ ∃ vb' E' Tk' ad ne cap, Run w' g C q kd' vb' s' E' Tk' ∧ Tk' 2 = .bool false ∧ Tk' 3 = Pt g.eb 32 ∧ E' 32 = .slice (some ⟨qb, 0, none⟩) 1 cq ∧ w'.ownsRow 0 155 1 (.slice (some ⟨qb, 0, none⟩) 1 cq) 1 [P0 g.tb] ∧ E' 33 = .slice g.sa 0 g.sc ∧ w'.ownsRow 0 155 1 (.slice g.sa 0 g.sc) 0 [] ∧ E' 43 = .slice ad ne cap ∧ w'.ownsRow w.heap.size 48 3 (.slice ad ne cap) ne (evL ev) ∧ Grew g.n kd vb kd' vb' w.heap.size) ∨
     (r ≠ 0 ∧ ∃ vb' E' ad ne cap, Full w' g.eb 144 44 44 E' ∧ Off g.clk E' r ∧ E' 2 = .int .i64 g.wk ∧ E' 27 = P0 g.sb ∧ Wok w' g kd' vb' ∧ Grew g.n kd vb kd' vb' w.heap.size ∧ E' 43 = .slice ad ne cap ∧ w'.ownsRow w.heap.size 48 3 (.slice ad ne cap) ne (evL ev) ∧ (r = 4 → Zs w w' g C q s' kd' vb' E' qb cq) ∧ (r = 5 → Yld w' g C q kd' vb' s' E' qb cq)))

/-- The task runs, j instructions of its turn done. -/
def Going (w wr : World) (g : Geo) (C : List B.In) (q : Nat) (kd : B.Kd) (vb : Vs) (s : B.St) (Tk : Nat → Value) (qb cq j : Nat) : Prop :=
  ∃ kd' vb' s' E' ad ne cap ev, Run wr g C q kd' vb' s' E' Tk ∧ Mid wr g E' Tk w.heap.size qb cq ad ne cap ev ∧ ne ≤ j ∧ Only (FE g qb kd vb) w wr ∧ Grew g.n kd vb kd' vb' w.heap.size ∧
    ∀ sf kf r ev2, B.Runs3 g.clk C g.nr g.n (q - j) s' kd' sf kf r ev2 → B.Runs3 g.clk C g.nr g.n q s kd sf kf r (ev ++ ev2)
/-- The task runs no more. -/
def Gone (w wr : World) (g : Geo) (C : List B.In) (q : Nat) (kd : B.Kd) (vb : Vs) (s : B.St) (qb cq : Nat) : Prop :=
  ∃ s' kd' r ev vb' E' ad ne cap, r ≠ 0 ∧ B.Runs3 g.clk C g.nr g.n q s kd s' kd' r ev ∧ Only (FE g qb kd vb) w wr ∧ Full wr g.eb 144 44 44 E' ∧ Off g.clk E' r ∧ E' 1 = .int .i64 q ∧ E' 2 = .int .i64 g.wk ∧ E' 27 = P0 g.sb ∧ Wok wr g kd' vb' ∧ Grew g.n kd vb kd' vb' w.heap.size ∧ E' 43 = .slice ad ne cap ∧ wr.ownsRow w.heap.size 48 3 (.slice ad ne cap) ne (evL ev) ∧ wr.cell? ⟨g.tb, 2, none⟩ = some (.bool false) ∧ (r = 4 → Zs w wr g C q s' kd' vb' E' qb cq) ∧ (r = 5 → Yld wr g C q kd' vb' s' E' qb cq)

theorem going_on {w wr w' : World} {g : Geo} {C : List B.In} {q : Nat} {kd kd' : B.Kd} {vb vb' : Vs} {s s' : B.St} {E' Tk : Nat → Value} {qb cq j : Nat} {ad : Option Addr} {ne cap : Nat} {ev : List B.Ev}
    (hm : Mid wr g E' Tk w.heap.size qb cq ad ne cap ev) (hne : ne ≤ j) (hO : Only (FE g qb kd vb) w wr) (hv : Grew g.n kd vb kd' vb' w.heap.size)
    (hr : ∀ sf kf r ev2, B.Runs3 g.clk C g.nr g.n (q - j) s' kd' sf kf r ev2 → B.Runs3 g.clk C g.nr g.n q s kd sf kf r (ev ++ ev2)) (hj : j < q) (h : Oned wr w' g C q kd' vb' Tk w.heap.size qb cq ad ne cap ev s') :
    Going w w' g C q kd vb s Tk qb cq (j + 1) ∨ Gone w w' g C q kd vb s qb cq := by
  obtain ⟨s1, kd1, r1, ev1, hs, hO1, h2⟩ := h
  have hO2 : Only (FE g qb kd vb) w w' := hO.trans hO1 (fun b hb hl => by
    rcases hb with h | h | h | h | h | h | h | (h | h | h) | h | h | h
    · exact Or.inl (by omega)
    · exact Or.inl (by omega)
    · exact Or.inl (by omega)
    · exact Or.inl (by omega)
    · exact Or.inl (by omega)
    · exact Or.inl (by omega)
    · exact Or.inl (by omega)
    · exact Or.inl (by omega)
    · exact Or.inl (by omega)
    · exact Or.inr (Or.inr (Or.inr (Or.inl ((hv b h).resolve_right (by omega)))))
    · have := (own_ty hm.o42 b h).1
      omega
    · exact Or.inr (Or.inr (Or.inr (Or.inr h)))
    · exact Or.inr (Or.inl h))
  have hq : q - j = (q - (j + 1)) + 1 := by omega
  rcases h2 with ⟨rfl, vb2, E2, ad2, ne2, cap2, a1, a2, a3, a4⟩ | ⟨hr1, vb2, E2, ad2, ne2, cap2, a1, a2, a2', c1, c2, c3, c4, a3, a4, a5, a6, a7, a8⟩
  · refine Or.inl ⟨kd1, vb2, s1, E2, ad2, ne2, cap2, ev ++ ev1, a1, a2, by omega, hO2, hv.trans a4 hO.size, fun sf kf r ev2 h => ?_⟩
    rw [List.append_assoc]
    refine hr sf kf r _ ?_
    rw [hq]
    exact ⟨s1, kd1, 0, ev1, hs, Or.inl ⟨rfl, ev2, h, rfl⟩⟩
  · refine Or.inr ⟨s1, kd1, r1, ev ++ ev1, vb2, E2, ad2, ne2, cap2, hr1, hr s1 kd1 r1 ev1 ?_, hO2, a1, a2, a2', c1, c2, c3, hv.trans c4 hO.size, a3, a4, a6, fun e => ?_, a8⟩
    · rw [hq]
      exact ⟨s1, kd1, r1, ev1, hs, Or.inr ⟨hr1, rfl, rfl, fun _ => ⟨rfl, rfl⟩⟩⟩
    · obtain ⟨Tk', zb, zc, U, a, b1, b2, b2', b3, b5⟩ := a7 e
      exact ⟨Tk', zb, zc, U, a, b1, b2, b2', b3, b5.imp id (fun h => Nat.le_trans hO.size h)⟩
end Go.Proofs.YtnjiinbhbjpfkaaGreatDoor

/-
  The first task of the queue runs.
-/
namespace Go.Proofs.YtnjiinbhbjpfkaaGreatDoor
open Go.RowKit

set_option maxRecDepth 100000 in
set_option maxHeartbeats 4000000 in
theorem runFirst_any (g : Geo) (C : List B.In) (q : Nat) (kd : B.Kd) (vb : Vs) (s : B.St) (E Tk : Nat → Value) (qb cq : Nat) (w : World) (hQ : Que w g C q kd vb s E Tk qb cq) :
    Calls Tryz.prog 68 #[P0 g.eb] w fun e w' => e = .returned (.tuple #[]) ∧ Turned w w' g C q kd vb s qb cq := by
  have KQ := hid hQ
  have c31 := hQ.hR.hE.cell 32 (by omega)
  rw [hQ.e31] at c31
  have q0 := own_cell hQ.o31
  have le := hQ.hR.hE.lt
  have hem := empty_any g.eb 32 1 cq (some ⟨qb, 0, none⟩) w c31
  have hd1 : decide ((1 : Nat) = 0) = false := rfl
  rw [hd1] at hem
  have HEM := hid hem
  have HQQ := hid hQ.hq
  have hcq : 0 < cq := by
    rcases hQ.o31.2 with ⟨h, _⟩ | ⟨g', c', cur, h1, _, _, h4, _⟩
    · cases h
    · cases h1; omega
  clear hQ hem hd1
  go_enter Tryz.func68, Tryz.ntmps68
  go_wp2_with fail
  refine HEM.out.mono ?_
  rintro e w1 ⟨rfl, rfl⟩
  go_wp2_with fail
  refine (first_any g.eb 32 0 cq qb g.tb w1 c31 q0).mono ?_
  rintro e w2 ⟨rfl, rfl⟩
  go_wp2_with fail
  refine (stepOut_any g.eb g.tb qb cq 0 E Tk w2 KQ.out.hR.hE KQ.out.e31 KQ.out.hR.hK.hT KQ.out.t3 KQ.out.o31).mono ?_
  rintro e w3 ⟨rfl, ho3, hE3, hT3, hO3⟩
  obtain ⟨d2, z2⟩ := hT3.cells 2 (by omega)
  rw [upd_off _ _ _ _ (by omega), upd_off _ _ _ _ (by omega), KQ.out.t2] at d2
  have lt3 := hT3.lt
  have KO3 := hid hO3
  have KE3 := hid hE3
  have KT3 := hid hT3
  have KP3 := hid ho3
  clear ho3 hE3 hT3 hO3 c31 q0
  go_wp2_with fail
  have KO4 : Hid (Only (fun k => k = g.eb ∨ k = g.tb ∨ k = qb) w2 (w3.setCell ⟨g.tb, 2, none⟩ (.bool true))) := only_setCell KO3.out (Or.inl (Or.inr (Or.inl rfl))) _
  have hty := KQ.out.hR.ty
  have hqt : kty w2 qb = 155 := kty_own KQ.out.o31 rfl
  have hT4 : Full (w3.setCell ⟨g.tb, 2, none⟩ (.bool true)) g.tb 160 7 7 (upd (upd (upd Tk 3 (.pointer none)) 4 .nilFunc) 2 (.bool true)) := KT3.out.upd 2 _
  have KR4 : Hid (Run (w3.setCell ⟨g.tb, 2, none⟩ (.bool true)) g C q kd vb s (upd E 32 (.slice (some ⟨qb, 0, none⟩) 0 cq)) (upd (upd (upd Tk 3 (.pointer none)) 4 .nilFunc) 2 (.bool true))) :=
    KQ.out.hR.line KO4.out hqt KQ.out.h1 KQ.out.h2 (KE3.out.off (ne_ty hty.1 hty.2.1 (by decide))) (KQ.out.hR.eE.upd 32 _ (Or.inl rfl)) hT4 rfl rfl rfl
  have KM4 : Hid (Mid (w3.setCell ⟨g.tb, 2, none⟩ (.bool true)) g (upd E 32 (.slice (some ⟨qb, 0, none⟩) 0 cq)) (upd (upd (upd Tk 3 (.pointer none)) 4 .nilFunc) 2 (.bool true)) w2.heap.size qb cq none 0 0 []) :=
    { t2 := rfl, t3 := rfl, e31 := rfl, o31 := own_of KP3.out (fun k h => Below.heap_setCell _ _ _ _ (by injection h with h; subst h; exact fun e => ne_ty hqt hty.2.1 (by decide) e)), e42 := KQ.out.e42, o42 := World.ownsRow_nil _ _ _ _, hb := KO4.out.size, e32 := KQ.out.e32, h32 := KQ.out.h32, n32 := KQ.out.n32, nqb := ⟨fun e => KQ.out.h1 e.symm, fun e => KQ.out.h2 e.symm⟩, hcq := hcq,
      o32 := own_of KQ.out.o32 (fun k h => KO4.out.same (own_ty KQ.out.o32 k h).2.1 (by
        have h153 := kty_own KQ.out.o32 h
        rintro (rfl | rfl | rfl)
        · rw [hty.1] at h153; exact absurd h153 (by decide)
        · rw [hty.2.1] at h153; exact absurd h153 (by decide)
        · exact (KQ.out.n32 _ h).2.2 rfl)) }
  generalize hw4 : w3.setCell ⟨g.tb, 2, none⟩ (.bool true) = w4 at *
  generalize hTk : upd (upd (upd Tk 3 (.pointer none)) 4 .nilFunc) 2 (.bool true) = Tk1 at *
  have KF4 : Hid (Only (FE g qb kd vb) w2 w4) := KO4.out.mono (fun k h _ => by
    rcases h with h | h | h
    · exact Or.inl (by omega)
    · exact Or.inl (by omega)
    · exact Or.inr (Or.inl h))
  clear hw4 hTk hT4 hty hqt d2 z2 lt3 KO3 KE3 KT3 KP3 KO4
  go_loopw [3] (fun i wr => ∃ j : Nat, j ≤ q ∧ i = .int .i64 j ∧ Hid (Going w2 wr g C q kd vb s Tk1 qb cq j ∨ Gone w2 wr g C q kd vb s qb cq)) (fun i _ => q - (intOf i).toNat)
  case atStart => exact ⟨0, by omega, rfl, Or.inl ⟨kd, vb, s, _, none, 0, 0, [], KR4.out, KM4.out, by omega, KF4.out, Grew.refl _ _ _ _, fun sf kf r ev2 h => by simpa using h⟩⟩
  case round =>
    obtain ⟨j, hj, rfl, hG⟩ := hrel
    rcases hG.out with hG1 | hG1
    · obtain ⟨kd', vb', s', E', ad, ne, cap, ev, hR, hm, hne, hO, hv, hr⟩ := hG1
      have e1 := hR.hE.cell 1 (by omega)
      rw [hR.eE.e1] at e1
      have t2 := hR.hK.hT.cell 2 (by omega)
      rw [hm.t2] at t2
      have lr := hR.hE.lt
      have lt := hR.hK.hT.lt
      have KR := hid hR
      have KM := hid hm
      have KV := hid (And.intro hO (And.intro hv hr))
      clear hR hm hO hv hr
      by_cases hlt : j < q
      · have hlt2 : (j : Int) < (q : Int) := by omega
        go_wp2_with fail
        refine (runOne_any g C q kd' vb' s' E' Tk1 w2.heap.size qb cq ad ne cap ev wr KR.out KM.out (by have := HQQ.out; omega)).mono ?_
        rintro e w5 ⟨rfl, h1⟩
        have HG := hid (going_on KM.out hne KV.out.1 KV.out.2.1 KV.out.2.2 hlt h1)
        clear h1 e1 t2
        go_wp2_with fail
        have hw : wrap64 ((j : Int) + 1) = ((j + 1 : Nat) : Int) := by
          rw [IntWalk.wrap64_in ((j : Int) + 1) ⟨by omega, by have := HQQ.out; omega⟩]; omega
        rw [hw]
        go_roundw
        case rel => exact ⟨j + 1, by omega, rfl, HG⟩
        case measure => simp [intOf]; omega
      · have hlt2 : ¬ ((j : Int) < (q : Int)) := by omega
        have hqt : kty wr qb = 155 := kty_own KM.out.o31 rfl
        have HQT := hid hqt
        have hjq : j = q := by omega
        have HJ := hid hjq
        clear hqt hjq
        go_wp2_with fail
        refine (join_room g.eb g.tb qb cq 0 E' Tk1 wr KR.out.hE KM.out.e31 KR.out.hK.hT KM.out.t3 KM.out.o31 hcq (by omega)).mono ?_
        rintro e w6 ⟨rfl, ho6, hE6, hT6, hO6⟩
        have hO7 : Only (fun k => k = g.eb ∨ k = g.tb ∨ k = qb) wr w6 := hO6.mono (fun k h _ => by
          rcases h with h | h | h
          · exact Or.inl h
          · exact Or.inr (Or.inl h)
          · refine Or.inr (Or.inr ?_)
            injection h with h; exact h.symm)
        have hR6 := KR.out.line hO7 HQT.out KQ.out.h1 KQ.out.h2 hE6 (KR.out.eE.upd 32 _ (Or.inl rfl)) hT6 rfl rfl rfl
        have hT : Turned w2 w6 g C q kd vb s qb cq := by
          refine ⟨s', kd', 0, ev, ?_, KV.out.1.trans hO7 (fun k h _ => ?_), Or.inl ⟨rfl, vb', _, _, ad, ne, cap, hR6, rfl, rfl, rfl, ho6, KM.out.e32, own_of KM.out.o32 (fun k h => ?_), KM.out.e42, own_of KM.out.o42 (fun k h => ?_), KV.out.2.1⟩⟩
          · have := KV.out.2.2 s' kd' 0 [] (by rw [HJ.out, Nat.sub_self]; exact ⟨rfl, rfl, rfl, rfl⟩)
            simpa using this
          · rcases h with h | h | h
            · exact Or.inl (by omega)
            · exact Or.inl (by omega)
            · exact Or.inr (Or.inl h)
          · have h153 := kty_own KM.out.o32 h
            obtain ⟨y1, y2, _⟩ := KR.out.ty
            refine hO7.same (own_ty KM.out.o32 k h).2.1 ?_
            rintro (rfl | rfl | rfl)
            · rw [y1] at h153; exact absurd h153 (by decide)
            · rw [y2] at h153; exact absurd h153 (by decide)
            · exact (KM.out.n32 _ h).2.2 rfl
          · have h48 := kty_own KM.out.o42 h
            obtain ⟨y1, y2, _⟩ := KR.out.ty
            refine hO7.same (own_ty KM.out.o42 k h).2.1 ?_
            rintro (rfl | rfl | rfl)
            · rw [y1] at h48; exact absurd h48 (by decide)
            · rw [y2] at h48; exact absurd h48 (by decide)
            · rw [HQT.out] at h48; exact absurd h48 (by decide)
        have HT := hid hT
        clear ho6 hE6 hT6 hO6 hO7 hR6 hT e1 t2
        go_wp2_with fail
        go_end0
        exact ⟨rfl, HT.out⟩
    · obtain ⟨s', kd', r, ev, vb', E', ad, ne, cap, hr0, hr, hO, hE, hf, hq1, hw2, h27, hwo, hgr, h42, o42, t2, hz⟩ := hG1
      have e1 := hE.cell 1 (by omega)
      rw [hq1] at e1
      have lr := hE.lt
      have lt : g.tb < wr.heap.size := by
        have := KQ.out.hR.hK.hT.lt
        have := hO.size
        omega
      have HT : Hid (Turned w2 wr g C q kd vb s qb cq) := ⟨s', kd', r, ev, hr, hO, Or.inr ⟨hr0, vb', E', ad, ne, cap, hE, hf, hw2, h27, hwo, hgr, h42, o42, hz⟩⟩
      clear hr0 hr hO hE hf hq1 hw2 h27 hwo hgr h42 o42 hz
      by_cases hlt : j < q
      · have hlt2 : (j : Int) < (q : Int) := by omega
        go_wp2_with fail
        go_end0
        exact ⟨rfl, HT.out⟩
      · have hlt2 : ¬ ((j : Int) < (q : Int)) := by omega
        go_wp2_with fail
        go_end0
        exact ⟨rfl, HT.out⟩
end Go.Proofs.YtnjiinbhbjpfkaaGreatDoor

/-
  The collector's work at a turn: what stays of the machine.
-/
namespace Go.Proofs.YtnjiinbhbjpfkaaGreatDoor
open Go.RowKit

section
variable {w w' : World} {g : Geo} {C : List B.In} {q : Nat} {kd kd' : B.Kd} {vb : Vs} {s : B.St} {E Tk : Nat → Value} {qb cq : Nat}
/-- The store's blocks are none of the others. -/
theorem Run.sbk (h : Run w g C q kd vb s E Tk) (k : Nat) (hk : Sbk g.sb g.pb g.n kd vb k) : (kty w k = 207 ∨ kty w k = 228 ∨ kty w k = 149 ∨ kty w k = 275 ∨ kty w k = 4 ∨ kty w k = 3) ∧ k ≠ g.rb ∧ k ≠ g.ob := by
  obtain ⟨y1, y2, y3, y4, y5, y6, y7, y8, y9, y10⟩ := h.ty
  rcases hk with rfl | rfl | hk
  · exact ⟨Or.inl y5, ne_ty y5 y4 (by decide), ne_ty y5 y8 (by decide)⟩
  · exact ⟨Or.inr (Or.inl y6), ne_ty y6 y4 (by decide), ne_ty y6 y8 (by decide)⟩
  · exact ⟨Or.inr (Or.inr (y10 k hk)), h.hvr k hk⟩
theorem Run.no_sbk (h : Run w g C q kd vb s E Tk) {a : Nat} {T : TypeId} (ha : kty w a = T) (hT : T ≠ 207 ∧ T ≠ 228 ∧ T ≠ 149 ∧ T ≠ 275 ∧ T ≠ 4 ∧ T ≠ 3) : ¬ Sbk g.sb g.pb g.n kd vb a := by
  intro hk
  have := (h.sbk a hk).1
  rw [ha] at this
  rcases this with h | h | h | h | h | h
  · exact hT.1 h
  · exact hT.2.1 h
  · exact hT.2.2.1 h
  · exact hT.2.2.2.1 h
  · exact hT.2.2.2.2.1 h
  · exact hT.2.2.2.2.2 h
/-- The collector has worked. -/
theorem Run.worked (h : Run w g C q kd vb s E Tk) (hW : Wkd w w' g.eb g.sb g.pb g.n kd vb s g.nr kd') : ∃ vb', Run w' g C q kd' vb' s E Tk ∧ Grew g.n kd vb kd' vb' w.heap.size ∧ Only (Sbk g.sb g.pb g.n kd vb) w w' := by
  obtain ⟨vb', hS, hH, hO, hG⟩ := hW
  obtain ⟨y1, y2, y3, y4, y5, y6, y7, y8, y9, y10⟩ := h.ty
  obtain ⟨l1, l2, l3, l4, l5, l6, l7, l8, l9, l10, l11⟩ := h.lt
  exact ⟨vb', { hK := h.hK.kept hO (fun k hk _ => by
                  refine ⟨(h.sbk k hk).2.2, ?_⟩
                  unfold KT
                  rcases (h.sbk k hk).1 with h | h | h | h | h | h <;> simp [h]), hE := h.hE.only hO (h.no_sbk y1 (by decide)), eE := h.eE, hF := h.hF.keep hO (h.no_sbk y3 (by decide)) (fun e => (h.sbk _ e).2.1 rfl), hS := hS, hH := hH, ok := h.ok, hn := h.hn, hp := h.hp, hro := h.hro,
                hvr := fun k hk => by
                  rcases hG k hk with h' | h'
                  · exact h.hvr k h'
                  · exact ⟨by omega, by omega⟩ }, hG, hO⟩
theorem Run.row (h : Run w g C q kd vb s E Tk) (hO : Only (Sbk g.sb g.pb g.n kd vb) w w') {base size n : Nat} {e : TypeId} {v : Value} {xs : List Value} (ho : w.ownsRow base e size v n xs) (he : e ≠ 207 ∧ e ≠ 228 ∧ e ≠ 149 ∧ e ≠ 275 ∧ e ≠ 4 ∧ e ≠ 3) : w'.ownsRow base e size v n xs :=
  own_of ho (fun k hk => hO.same (own_ty ho k hk).2.1 (h.no_sbk (kty_own ho hk) he))
end

section
variable {w w' : World} {g : Geo} {C : List B.In} {q : Nat} {kd : B.Kd} {vb : Vs} {s : B.St} {E Tk : Nat → Value} {qb cq zb zc : Nat} {U : Int}
theorem Zzz.grown (h : Zzz w g C q kd vb s E Tk qb cq zb zc U) (hg : w.grownBy w' none) : Zzz w' g C q kd vb s E Tk qb cq zb zc U :=
  { hR := h.hR.grown hg, t2 := h.t2, t3 := h.t3, t5 := h.t5, e31 := h.e31, e32 := h.e32, nqb := h.nqb, hcq := h.hcq, nzb := h.nzb, o31 := own_of h.o31 (fun k hb => hg.block k (own_ty h.o31 k hb).2.1 (by intro e; cases e)), o32 := own_of h.o32 (fun k hb => hg.block k (own_ty h.o32 k hb).2.1 (by intro e; cases e)) }
theorem Turned.kept {w0 : World} (h : Turned w0 w g C q kd vb s qb cq) (hg : w.grownBy w' none) : Turned w0 w' g C q kd vb s qb cq := by
  have hrow : ∀ {base size n : Nat} {e : TypeId} {v : Value} {xs : List Value}, w.ownsRow base e size v n xs → w'.ownsRow base e size v n xs := fun ho => own_of ho (fun k hk => hg.block k (own_ty ho k hk).2.1 (by intro e; cases e))
  obtain ⟨s', kd', r, ev, hr, hO, hh⟩ := h
  refine ⟨s', kd', r, ev, hr, hO.then0 hg, ?_⟩
  rcases hh with ⟨rfl, vb', E', Tk', ad, ne, cap, hR, t2, t3, e31, o31, e32, o32, e42, o42, hG⟩ | ⟨hr0, vb', E', ad, ne, cap, hE, hf, hw2, h27, ⟨Q, nr, sx, hX⟩, hG, e42, o42, hz, hy⟩
  · exact Or.inl ⟨rfl, vb', E', Tk', ad, ne, cap, hR.grown hg, t2, t3, e31, hrow o31, e32, hrow o32, e42, hrow o42, hG⟩
  · refine Or.inr ⟨hr0, vb', E', ad, ne, cap, hE.block (hg.block _ hE.lt (by intro e; cases e)), hf, hw2, h27, ⟨Q, nr, sx, hX.kept hg⟩, hG, e42, hrow o42, fun e => ?_, fun e => ?_⟩
    · obtain ⟨Tk', zb, zc, U, a, b1, b2, b2', b3, b5⟩ := hz e
      exact ⟨Tk', zb, zc, U, a, b1, b2, b2', b3.grown hg, b5⟩
    · obtain ⟨Tk', y1, y2, y3, y4, y5, y6, y7⟩ := hy e
      exact ⟨Tk', y1.grown hg, y2, y3, y4, hrow y5, y6, hrow y7⟩
end

/-- What a turn of the only task leaves, the collector's work done. -/
def TurnedW (w w' : World) (g : Geo) (C : List B.In) (q : Nat) (kd : B.Kd) (vb : Vs) (s : B.St) (qb cq : Nat) : Prop :=
  ∃ s' kd' r ev, B.Runs3 g.clk C g.nr g.n q s kd s' kd' r ev ∧ Only (FE g qb kd vb) w w' ∧
    ((r = 0 ∧ ∃ vb' E' Tk' ad ne cap, Run w' g C q (B.work s'.2.1 g.nr s'.2.2 g.n g.wk kd') vb' s' E' Tk' ∧ Tk' 2 = .bool false ∧ Tk' 3 = Pt g.eb 32 ∧ E' 32 = .slice (some ⟨qb, 0, none⟩) 1 cq ∧ w'.ownsRow 0 155 1 (.slice (some ⟨qb, 0, none⟩) 1 cq) 1 [P0 g.tb] ∧ E' 33 = .slice g.sa 0 g.sc ∧ w'.ownsRow 0 155 1 (.slice g.sa 0 g.sc) 0 [] ∧ E' 43 = .slice ad ne cap ∧ w'.ownsRow w.heap.size 48 3 (.slice ad ne cap) ne (evL ev) ∧ Grew g.n kd vb (B.work s'.2.1 g.nr s'.2.2 g.n g.wk kd') vb' w.heap.size) ∨
     (r ≠ 0 ∧ ∃ vb' E' ad ne cap, Full w' g.eb 144 44 44 E' ∧ Off g.clk E' r ∧ E' 43 = .slice ad ne cap ∧ w'.ownsRow w.heap.size 48 3 (.slice ad ne cap) ne (evL ev) ∧ (r = 4 → Zs w w' g C q s' (B.work s'.2.1 g.nr s'.2.2 g.n g.wk kd') vb' E' qb cq ∧ Grew g.n kd vb (B.work s'.2.1 g.nr s'.2.2 g.n g.wk kd') vb' w.heap.size) ∧ (r = 5 → Yld w' g C q (B.work s'.2.1 g.nr s'.2.2 g.n g.wk kd') vb' s' E' qb cq ∧ Grew g.n kd vb (B.work s'.2.1 g.nr s'.2.2 g.n g.wk kd') vb' w.heap.size)))

theorem Zzz.worked {w w' : World} {g : Geo} {C : List B.In} {q : Nat} {kd kd' : B.Kd} {vb : Vs} {s : B.St} {E Tk : Nat → Value} {qb cq zb zc : Nat} {U : Int} (h : Zzz w g C q kd vb s E Tk qb cq zb zc U) (hW : Wkd w w' g.eb g.sb g.pb g.n kd vb s g.nr kd') : ∃ vb', Zzz w' g C q kd' vb' s E Tk qb cq zb zc U ∧ Grew g.n kd vb kd' vb' w.heap.size ∧ Only (Sbk g.sb g.pb g.n kd vb) w w' := by
  obtain ⟨vb', hR, hG, hO⟩ := h.hR.worked hW
  exact ⟨vb', { hR := hR, t2 := h.t2, t3 := h.t3, t5 := h.t5, e31 := h.e31, o31 := h.hR.row hO h.o31 (by decide), e32 := h.e32, o32 := h.hR.row hO h.o32 (by decide), nqb := h.nqb, hcq := h.hcq, nzb := h.nzb }, hG, hO⟩

/-- The collector works behind a turn of the task. -/
theorem work_turned {w w6 : World} {g : Geo} {C : List B.In} {q : Nat} {kd : B.Kd} {vb : Vs} {s : B.St} {qb cq : Nat} (hwk : g.wk ≤ 50) (h : Turned w w6 g C q kd vb s qb cq) :
    w6.cell? ⟨g.eb, 2, none⟩ = some (.int .i64 g.wk) ∧ w6.cell? ⟨g.eb, 27, none⟩ = some (P0 g.sb) ∧ Calls Tryz.prog 69 #[P0 g.sb, .int .i64 g.wk] w6 fun e w7 => e = .returned (.tuple #[]) ∧ TurnedW w w7 g C q kd vb s qb cq := by
  obtain ⟨s', kd', r, ev, hr, hO, hh⟩ := h
  have hsz := hO.size
  have hFE : ∀ (kd1 : B.Kd) (vb1 : Vs) {w7 : World}, Grew g.n kd vb kd1 vb1 w.heap.size → Only (Sbk g.sb g.pb g.n kd1 vb1) w6 w7 → Only (FE g qb kd vb) w w7 := fun kd1 vb1 w7 hG h7 => hO.trans h7 (fun k hk hl => by
    rcases hG.sbk hk hl with h | h | h
    · exact Or.inl (by omega)
    · exact Or.inl (by omega)
    · exact Or.inr (Or.inr (Or.inr (Or.inl h))))
  rcases hh with ⟨rfl, vb', E', Tk', ad, ne, cap, hR, t2, t3, e31, o31, e32, o32, e42, o42, hG⟩ | ⟨hr0, vb', E', ad, ne, cap, hE, hf, hw2, h27, ⟨Q, nr, sx, hX⟩, hG, e42, o42, hz, hy⟩
  · refine ⟨(hR.hE.cell 2 (by omega)).trans (by rw [hR.eE.e2]), (hR.hE.cell 27 (by omega)).trans (by rw [hR.eE.e26]), (work_any _ g.eb g.sb g.pb g.n g.nr g.wk kd' vb' s' w6 hR.rts hwk).mono ?_⟩
    rintro e w7 ⟨rfl, hW⟩
    obtain ⟨vb2, hR2, hG2, hO2⟩ := hR.worked hW
    exact ⟨rfl, s', kd', 0, ev, hr, hFE _ _ hG hO2, Or.inl ⟨rfl, vb2, E', Tk', ad, ne, cap, hR2, t2, t3, e31, hR.row hO2 o31 (by decide), e32, hR.row hO2 o32 (by decide), e42, hR.row hO2 o42 (by decide), hG.trans hG2 hsz⟩⟩
  · refine ⟨(hE.cell 2 (by omega)).trans (by rw [hw2]), (hE.cell 27 (by omega)).trans (by rw [h27]), ?_⟩
    by_cases h4 : r = 4
    · obtain ⟨Tk', zb, zc, U, a, b1, b2, b2', b3, b5⟩ := hz h4
      refine (work_any _ g.eb g.sb g.pb g.n g.nr g.wk kd' vb' s' w6 b3.hR.rts hwk).mono ?_
      rintro e w7 ⟨rfl, hW⟩
      obtain ⟨vb2, hZ2, hG2, hO2⟩ := b3.worked hW
      exact ⟨rfl, s', kd', r, ev, hr, hFE _ _ hG hO2, Or.inr ⟨hr0, vb2, E', ad, ne, cap, hZ2.hR.hE, hf, e42, b3.hR.row hO2 o42 (by decide), fun _ => ⟨⟨Tk', zb, zc, U, a, b1, b2, b2', hZ2, b5⟩, hG.trans hG2 hsz⟩, fun e => by omega⟩⟩
    by_cases h5 : r = 5
    · obtain ⟨Tk', y1, y2, y3, y4, y5, y6, y7⟩ := hy h5
      refine (work_any _ g.eb g.sb g.pb g.n g.nr g.wk kd' vb' s' w6 y1.rts hwk).mono ?_
      rintro e w7 ⟨rfl, hW⟩
      obtain ⟨vb2, hR2, hG2, hO2⟩ := y1.worked hW
      exact ⟨rfl, s', kd', r, ev, hr, hFE _ _ hG hO2, Or.inr ⟨hr0, vb2, E', ad, ne, cap, hR2.hE, hf, e42, y1.row hO2 o42 (by decide), fun e => absurd e h4, fun _ => ⟨⟨Tk', hR2, y2, y3, y4, y1.row hO2 y5 (by decide), y6, y1.row hO2 y7 (by decide)⟩, hG.trans hG2 hsz⟩⟩⟩
    · refine (work_any Q g.eb g.sb g.pb g.n nr g.wk kd' vb' sx w6 hX hwk).mono ?_
      rintro e w7 ⟨rfl, vb2, hS2, hH2, hO2, hG2⟩
      have hne : ¬ Sbk g.sb g.pb g.n kd' vb' g.eb := by obtain ⟨cu, h1, _⟩ := hE; exact hX.hs.no_sbk h1 (by decide)
      exact ⟨rfl, s', kd', r, ev, hr, hFE _ _ hG hO2, Or.inr ⟨hr0, vb2, E', ad, ne, cap, hE.only hO2 hne, hf, e42, own_of o42 (fun k hk => hO2.same (own_ty o42 k hk).2.1 (by obtain ⟨_, _, cu, h1⟩ := own_ty o42 k hk; exact hX.hs.no_sbk h1 (by decide))), fun e => absurd e h4, fun e => absurd e h5⟩⟩
end Go.Proofs.YtnjiinbhbjpfkaaGreatDoor

/-
  A turn of the engine: of one whose task waits in the queue, and of one whose task runs no more; its state.
-/
namespace Go.Proofs.YtnjiinbhbjpfkaaGreatDoor
open Go.RowKit

/-- The same machine at another time. -/
def Geo.tick (g : Geo) (c : Int) : Geo := { g with clk := c }

section
variable {w w' : World} {g : Geo} {C : List B.In} {q : Nat} {kd : B.Kd} {vb : Vs} {s : B.St} {E E' Tk Tk' : Nat → Value} {bs qb cq : Nat}
theorem Que.grown (h : Que w g C q kd vb s E Tk qb cq) (hg : w.grownBy w' none) : Que w' g C q kd vb s E Tk qb cq :=
  { hR := h.hR.grown hg, t2 := h.t2, t3 := h.t3, e31 := h.e31, e42 := h.e42, h1 := h.h1, h2 := h.h2, hq := h.hq, e32 := h.e32, h32 := h.h32, n32 := h.n32, o31 := own_of h.o31 (fun k hb => hg.block k (own_ty h.o31 k hb).2.1 (by intro e; cases e)), o32 := own_of h.o32 (fun k hb => hg.block k (own_ty h.o32 k hb).2.1 (by intro e; cases e)) }
theorem Run.clock {c : Int} (h : Run w g C q kd vb s E Tk) (hc : 0 ≤ c ∧ c ≤ 9223372036854775807) : Run (w.setCell ⟨g.eb, 28, none⟩ (.int .i64 c)) (g.tick c) C q kd vb s (upd E 28 (.int .i64 c)) Tk := by
  obtain ⟨y1, y2, y3, y4, y5, y6, y7, y8, y9, y10⟩ := h.ty
  have hO : Only (fun k => k = g.eb) w (w.setCell ⟨g.eb, 28, none⟩ (.int .i64 c)) := only_setCell (S := fun k => k = g.eb) (only_refl _ _) (Or.inl rfl) _
  have hK := h.hK.kept hO (fun k hk _ => by subst hk; exact ⟨ne_ty y1 y8 (by decide), Or.inl y1⟩)
  have hu : ∀ j, j ≠ 28 → upd E 28 (.int .i64 c) j = E j := fun j hj => upd_off _ _ _ _ hj
  exact {
    hK := { hT := hK.hT, t0 := hK.t0, t1 := hK.t1, t6 := hK.t6, o28 := hK.o28, o29 := hK.o29, oK := hK.oK, hxe := hK.hxe, hxt := hK.hxt, hC := hK.hC, hA := hK.hA }
    hE := h.hE.upd 28 _
    eE := { e1 := (hu 1 (by omega)).trans h.eE.e1, e2 := (hu 2 (by omega)).trans h.eE.e2, hwk := h.eE.hwk, eA := fun j h1 h2 => by
              by_cases e : j = 28
              · omega
              · exact (hu j e).trans (h.eE.eA j h1 h2)
            e26 := (hu _ (by omega)).trans h.eE.e26, e27 := upd_at _ _ _, e28 := (hu _ (by omega)).trans h.eE.e28, e29 := (hu _ (by omega)).trans h.eE.e29, e30 := (hu _ (by omega)).trans h.eE.e30, e41 := (hu _ (by omega)).trans h.eE.e41, hck := hc }
    hF := h.hF.keep hO (ne_ty y3 y1 (by decide)) (ne_ty y4 y1 (by decide))
    hS := h.hS.keep hO (ne_ty y5 y1 (by decide)) (ne_ty y6 y1 (by decide)) (fun k hk => ne_own (y10 k hk) y1 (by decide))
    hH := h.hH, ok := h.ok, hn := h.hn, hp := h.hp, hvr := h.hvr, hro := h.hro }
theorem Que.clock {c : Int} (h : Que w g C q kd vb s E Tk qb cq) (hc : 0 ≤ c ∧ c ≤ 9223372036854775807) : Que (w.setCell ⟨g.eb, 28, none⟩ (.int .i64 c)) (g.tick c) C q kd vb s (upd E 28 (.int .i64 c)) Tk qb cq := by
  obtain ⟨y1, y2, _⟩ := h.hR.ty
  have hqt : kty w qb = 155 := kty_own h.o31 rfl
  exact { hR := h.hR.clock hc, t2 := h.t2, t3 := h.t3, e31 := h.e31, e42 := h.e42, h1 := h.h1, h2 := h.h2, hq := h.hq, e32 := h.e32, h32 := h.h32, n32 := h.n32,
          o31 := own_of h.o31 (fun k hb => Below.heap_setCell _ _ _ _ (by injection hb with hb; subst hb; exact ne_ty hqt y1 (by decide))),
          o32 := own_of h.o32 (fun k hb => Below.heap_setCell _ _ _ _ (ne_ty (kty_own h.o32 hb) y1 (by decide))) }
theorem Zzz.clock {c U : Int} {zb zc : Nat} (h : Zzz w g C q kd vb s E Tk qb cq zb zc U) (hc : 0 ≤ c ∧ c ≤ 9223372036854775807) : Zzz (w.setCell ⟨g.eb, 28, none⟩ (.int .i64 c)) (g.tick c) C q kd vb s (upd E 28 (.int .i64 c)) Tk qb cq zb zc U := by
  obtain ⟨y1, y2, _⟩ := h.hR.ty
  have hqt : kty w qb = 155 := kty_own h.o31 rfl
  have hzt : kty w zb = 155 := kty_own h.o32 rfl
  exact { hR := h.hR.clock hc, t2 := h.t2, t3 := h.t3, t5 := h.t5, e31 := h.e31, e32 := h.e32, nqb := h.nqb, hcq := h.hcq, nzb := h.nzb,
          o31 := own_of h.o31 (fun k hb => Below.heap_setCell _ _ _ _ (by injection hb with hb; subst hb; exact ne_ty hqt y1 (by decide))),
          o32 := own_of h.o32 (fun k hb => Below.heap_setCell _ _ _ _ (by injection hb with hb; subst hb; exact ne_ty hzt y1 (by decide))) }
theorem Zzz.told {v : Value} {U : Int} {zb zc : Nat} (h : Zzz w g C q kd vb s E Tk qb cq zb zc U) : Zzz (w.setCell ⟨g.eb, 43, none⟩ v) g C q kd vb s (upd E 43 v) Tk qb cq zb zc U := by
  obtain ⟨y1, y2, _⟩ := h.hR.ty
  have hqt : kty w qb = 155 := kty_own h.o31 rfl
  have hzt : kty w zb = 155 := kty_own h.o32 rfl
  exact { hR := h.hR.lines (Z := fun _ => False) (only_setCell (only_refl _ _) (Or.inl (Or.inl rfl)) _) (fun _ e => e.elim) id id (h.hR.hE.upd 43 _) (h.hR.eE.upd 43 _ (Or.inr (Or.inr rfl))) (h.hR.hK.hT.off (ne_ty y2 y1 (by decide))) rfl rfl rfl, t2 := h.t2, t3 := h.t3, t5 := h.t5, e31 := h.e31, e32 := h.e32, nqb := h.nqb, hcq := h.hcq, nzb := h.nzb,
          o31 := own_of h.o31 (fun k hb => Below.heap_setCell _ _ _ _ (by injection hb with hb; subst hb; exact ne_ty hqt y1 (by decide))),
          o32 := own_of h.o32 (fun k hb => Below.heap_setCell _ _ _ _ (by injection hb with hb; subst hb; exact ne_ty hzt y1 (by decide))) }
end

/-- What a turn of the engine leaves, its events in a list. -/
def Etd (w w' : World) (g : Geo) (C : List B.In) (q : Nat) (kd : B.Kd) (vb : Vs) (s : B.St) (qb cq : Nat) (v : Value) : Prop :=
  ∃ s' kd' r ev ad ne cap, v = .slice ad ne cap ∧ B.Runs3 g.clk C g.nr g.n q s kd s' kd' r ev ∧ Only (FE g qb kd vb) w w' ∧ w'.ownsRow w.heap.size 48 3 (.slice ad ne cap) ne (evL ev) ∧
    ((r = 0 ∧ ∃ vb' E' Tk', Que w' g C q (B.work s'.2.1 g.nr s'.2.2 g.n g.wk kd') vb' s' E' Tk' qb cq ∧ Grew g.n kd vb (B.work s'.2.1 g.nr s'.2.2 g.n g.wk kd') vb' w.heap.size) ∨
     (r ≠ 0 ∧ ∃ E', Full w' g.eb 144 44 44 E' ∧ Off g.clk E' r ∧ E' 43 = .slice none 0 0 ∧ (r = 4 → ∃ vb', Zs w w' g C q s' (B.work s'.2.1 g.nr s'.2.2 g.n g.wk kd') vb' E' qb cq ∧ Grew g.n kd vb (B.work s'.2.1 g.nr s'.2.2 g.n g.wk kd') vb' w.heap.size) ∧ (r = 5 → ∃ vb' Tk', Que w' g C q (B.work s'.2.1 g.nr s'.2.2 g.n g.wk kd') vb' s' E' Tk' qb cq ∧ Grew g.n kd vb (B.work s'.2.1 g.nr s'.2.2 g.n g.wk kd') vb' w.heap.size)))

theorem etd_of {w w1 w' : World} {g : Geo} {C : List B.In} {q : Nat} {kd : B.Kd} {vb : Vs} {s : B.St} {qb cq : Nat} (h1 : g.lb ≠ qb) (h2 : g.xt ≠ qb) (hq : 1 ≤ q ∧ q ≤ 50) (h32 : g.sa ≠ none → 0 < g.sc) (n32 : ∀ k, (Value.slice g.sa 0 g.sc).ownBlock = some k → k ≠ g.lb ∧ k ≠ g.xt ∧ k ≠ qb) (hO : Only (FE g qb kd vb) w w1) (h : TurnedW w1 w' g C q kd vb s qb cq) :
    ∃ E' v, Full w' g.eb 144 44 44 E' ∧ E' 43 = v ∧ (∃ ad ne cap, v = .slice ad ne cap) ∧ Etd w (w'.setCell ⟨g.eb, 43, none⟩ (.slice none 0 0)) g C q kd vb s qb cq v := by
  obtain ⟨s', kd', r, ev, hr, hO1, hh⟩ := h
  have hO2 : Only (FE g qb kd vb) w (w'.setCell ⟨g.eb, 43, none⟩ (.slice none 0 0)) := only_setCell (hO.trans hO1 (fun _ h _ => h)) (Or.inl (Or.inl (Or.inl rfl))) _
  rcases hh with ⟨rfl, vb', E', Tk', ad, ne, cap, hR, t2, t3, e31, o31, e32, o32, e42, o42, hv⟩ | ⟨hr0, vb', E', ad, ne, cap, hE, hf, e42, o42, hz, hy⟩
  · obtain ⟨y1, y2, _⟩ := hR.ty
    have hqt : kty w' qb = 155 := kty_own o31 rfl
    have hne : ∀ k, (Value.slice ad ne cap).ownBlock = some k → k ≠ g.eb := fun k hk e => by
      have := kty_own o42 hk
      rw [e, y1] at this; exact absurd this (by decide)
    refine ⟨E', _, hR.hE, e42, ⟨_, _, _, rfl⟩, s', kd', 0, ev, ad, ne, cap, rfl, hr, hO2, ?_, Or.inl ⟨rfl, vb', upd E' 43 (.slice none 0 0), Tk', ?_, fun k hk => (hv k hk).imp id (fun h => Nat.le_trans hO.size h)⟩⟩
    · refine own_of (w := w') ?_ (fun k hk => Below.heap_setCell _ _ _ _ (hne k hk))
      rcases o42 with ⟨a, b | ⟨g', c', cur, b1, b2, b3⟩⟩
      · exact ⟨a, Or.inl b⟩
      · exact ⟨a, Or.inr ⟨g', c', cur, b1, Nat.le_trans hO.size b2, b3⟩⟩
    · exact { hR := hR.line (only_setCell (only_refl _ _) (Or.inl (Or.inl rfl)) _) hqt h1 h2 (hR.hE.upd 43 _) (hR.eE.upd 43 _ (Or.inr (Or.inr rfl))) (hR.hK.hT.off (ne_ty y2 y1 (by decide))) rfl rfl rfl, t2 := t2, t3 := t3, e31 := e31, e42 := rfl, h1 := h1, h2 := h2, hq := hq, e32 := e32, h32 := h32, n32 := n32,
              o32 := own_of o32 (fun k hb => Below.heap_setCell _ _ _ _ (ne_ty (kty_own o32 hb) y1 (by decide))),
              o31 := own_of o31 (fun k hb => Below.heap_setCell _ _ _ _ (by injection hb with hb; subst hb; exact ne_ty hqt y1 (by decide))) }
  · have hne : ∀ k, (Value.slice ad ne cap).ownBlock = some k → k ≠ g.eb := fun k hk e => by
      have := kty_own o42 hk
      rw [e, kty_full hE] at this; exact absurd this (by decide)
    refine ⟨E', _, hE, e42, ⟨_, _, _, rfl⟩, s', kd', r, ev, ad, ne, cap, rfl, hr, hO2, ?_, Or.inr ⟨hr0, upd E' 43 (.slice none 0 0), hE.upd 43 _, hf, rfl, fun e => ?_, fun e => ?_⟩⟩
    rotate_left
    · obtain ⟨⟨Tk', zb, zc, U, a, b1, b2, b2', b3, b5⟩, b4⟩ := hz e
      exact ⟨vb', ⟨Tk', zb, zc, U, a, b1, b2, b2', b3.told, b5.imp id (fun h => Nat.le_trans hO.size h)⟩, fun k hk => (b4 k hk).imp id (fun h => Nat.le_trans hO.size h)⟩
    · obtain ⟨⟨Tk', hR, t2, t3, e31, o31, e32, o32⟩, hv⟩ := hy e
      obtain ⟨y1, y2, _⟩ := hR.ty
      have hqt : kty w' qb = 155 := kty_own o31 rfl
      exact ⟨vb', Tk', { hR := hR.line (only_setCell (only_refl _ _) (Or.inl (Or.inl rfl)) _) hqt h1 h2 (hR.hE.upd 43 _) (hR.eE.upd 43 _ (Or.inr (Or.inr rfl))) (hR.hK.hT.off (ne_ty y2 y1 (by decide))) rfl rfl rfl, t2 := t2, t3 := t3, e31 := e31, e42 := rfl, h1 := h1, h2 := h2, hq := hq, e32 := e32, h32 := h32, n32 := n32, o32 := own_of o32 (fun k hb => Below.heap_setCell _ _ _ _ (ne_ty (kty_own o32 hb) y1 (by decide))), o31 := own_of o31 (fun k hb => Below.heap_setCell _ _ _ _ (by injection hb with hb; subst hb; exact ne_ty hqt y1 (by decide))) }, fun k hk => (hv k hk).imp id (fun h => Nat.le_trans hO.size h)⟩
    refine own_of (w := w') ?_ (fun k hk => Below.heap_setCell _ _ _ _ (hne k hk))
    rcases o42 with ⟨a, b | ⟨g', c', cur, b1, b2, b3⟩⟩
    · exact ⟨a, Or.inl b⟩
    · exact ⟨a, Or.inr ⟨g', c', cur, b1, Nat.le_trans hO.size b2, b3⟩⟩

set_option maxRecDepth 100000 in
set_option maxHeartbeats 4000000 in
theorem eturn_any (tk : Int) (g : Geo) (C : List B.In) (q : Nat) (kd : B.Kd) (vb : Vs) (s : B.St) (E Tk : Nat → Value) (qb cq : Nat) (w : World) (hQ : Que w g C q kd vb s E Tk qb cq) :
    Calls Tryz.prog 41 #[P0 g.eb, .int .i64 tk, .slice none 0 0] w fun e w' => ∃ v, e = .returned v ∧ Etd w w' (g.tick (B.aft g.clk tk)) C q kd vb s qb cq v := by
  have KQ := hid hQ
  obtain ⟨c27, z27⟩ := hQ.hR.hE.cells 28 (by omega)
  rw [hQ.hR.eE.e27] at c27
  have le := hQ.hR.hE.lt
  have haf := after_gen g.eb g.clk tk w c27 hQ.hR.eE.hck.1 hQ.hR.eE.hck.2
  have hin := B.aft_in (t := tk) hQ.hR.eE.hck.1 hQ.hR.eE.hck.2
  have HIN := hid hin
  have HWK : Hid (g.wk ≤ 50) := hQ.hR.eE.hwk
  generalize hc : B.aft g.clk tk = c at *
  have HAF := hid haf
  clear hQ haf hc hin
  go_enter Tryz.func41, Tryz.ntmps41
  go_wp2_with fail
  refine HAF.out.mono ?_
  rintro e w1 ⟨rfl, rfl⟩
  go_wp2_with fail
  have KQ1 := hid (KQ.out.clock HIN.out)
  have KO1 : Hid (Only (FE g qb kd vb) w1 (w1.setCell ⟨g.eb, 28, none⟩ (.int .i64 c))) := only_setCell (only_refl _ _) (Or.inl (Or.inl (Or.inl rfl))) _
  generalize hw2 : w1.setCell ⟨g.eb, 28, none⟩ (.int .i64 c) = w2 at *
  clear hw2 c27 z27 HAF
  refine (receive_any g.eb w2).mono ?_
  rintro e w3 ⟨rfl, rfl⟩
  have c28 : w3.cell? ⟨g.eb, 29, none⟩ = some (.slice (some ⟨g.lb, 0, none⟩) 1 g.cl) := (KQ1.out.hR.hE.cell 29 (by omega)).trans (by rw [KQ1.out.hR.eE.e28]; rfl)
  have c41 : w3.cell? ⟨g.eb, 42, none⟩ = some (.bool false) := (KQ1.out.hR.hE.cell 42 (by omega)).trans (by rw [KQ1.out.hR.eE.e41])
  have c32 : w3.cell? ⟨g.eb, 33, none⟩ = some (.slice g.sa 0 g.sc) := (KQ1.out.hR.hE.cell 33 (by omega)).trans (by rw [KQ1.out.e32]; rfl)
  have le2 : g.eb < w3.heap.size := KQ1.out.hR.hE.lt
  have hlv := lives_any g.eb 1 g.cl (some ⟨g.lb, 0, none⟩) w3 c28
  have hd1 : decide (0 < 1) = true := rfl
  rw [hd1] at hlv
  have HLV := hid hlv
  clear hlv hd1 c28
  go_wp2_with fail
  refine HLV.out.mono ?_
  rintro e w4 ⟨rfl, rfl⟩
  go_wp2_with fail
  refine (wake_any g.eb g.sc g.sa w4 c32).mono ?_
  rintro e w5 ⟨rfl, hg5⟩
  have KQ5 := hid (KQ1.out.grown hg5)
  have KO5 := hid (KO1.out.then0 hg5)
  clear hg5 c41 c32 HLV
  go_wp2_with fail
  refine (runFirst_any (g.tick c) C q kd vb s _ Tk qb cq w5 KQ5.out).mono ?_
  rintro e w6 ⟨rfl, hT⟩
  obtain ⟨k2', k27', hwk⟩ := work_turned (g := g.tick c) HWK.out (hT.kept (grown_drew (grown_refl w6 none)))
  have k2 : w6.cell? ⟨g.eb, 2, none⟩ = some (.int .i64 g.wk) := k2'
  have k27 : w6.cell? ⟨g.eb, 27, none⟩ = some (P0 g.sb) := k27'
  have le6' : g.eb < w6.heap.size := cell_lt k2
  have HWO : Hid (Calls Tryz.prog 69 #[P0 g.sb, .int .i64 g.wk] w6.drew fun e w7 => e = .returned (.tuple #[]) ∧ TurnedW w5 w7 (g.tick c) C q kd vb s qb cq) := hwk
  clear hT k2' k27' hwk
  go_wp2_with fail
  go_cut [] from 30 to 38 (fun wx => Hid (TurnedW w5 wx (g.tick c) C q kd vb s qb cq))
  case first =>
    go_region_with (go_at_call 69; refine HWO.out.mono ?_; rintro e w7 ⟨rfl, hT7⟩; have HT7 := hid hT7; clear hT7)
    all_goals
      go_wp2_with fail
      go_meet
      case rel => exact HT7
  case rest =>
    have HT7 : Hid (TurnedW w5 wc (g.tick c) C q kd vb s qb cq) := hcut
    obtain ⟨E', v, hE6, e42, ⟨ad, ne, cap, rfl⟩, hE⟩ := etd_of (g := g.tick c) KQ.out.h1 KQ.out.h2 KQ.out.hq KQ.out.h32 KQ.out.n32 KO5.out HT7.out
    obtain ⟨d42', z42'⟩ := hE6.cells 43 (by omega)
    rw [e42] at d42'
    have d42 : wc.cell? ⟨g.eb, 43, none⟩ = some (.slice ad ne cap) := d42'
    have z42 : wc.frozen? ⟨g.eb, 43, none⟩ = false := z42'
    clear d42' z42' k2 k27
    have le6 : g.eb < wc.heap.size := hE6.lt
    have HR := hid hE
    clear hE6 e42 hE
    go_wp2_with fail
    go_ret
    exact ⟨_, rfl, HR.out⟩

set_option maxRecDepth 100000 in
set_option maxHeartbeats 4000000 in
theorem eturn_off (eb r : Nat) (E : Nat → Value) (w : World) (hE : Full w eb 144 44 44 E) (hf : Off 0 E r) (h42 : E 43 = .slice none 0 0) (hr : r = 1 ∨ r = 2) :
    Calls Tryz.prog 41 #[P0 eb, .int .i64 0, .slice none 0 0] w fun e w' => e = .returned (.slice none 0 0) ∧ Full w' eb 144 44 44 E ∧ Only (fun k => k = eb) w w' := by
  obtain ⟨c27, z27⟩ := hE.cells 28 (by omega)
  rw [hf.1] at c27
  have le := hE.lt
  have HAF := hid (after_any eb w c27)
  have hE2 : Full (w.setCell ⟨eb, 28, none⟩ (.int .i64 0)) eb 144 44 44 E := (hE.upd 28 _).congr (fun j _ => by
    by_cases e : j = 28
    · subst e; rw [upd_at, hf.1]
    · rw [upd_off _ _ _ _ e])
  have KE2 := hid hE2
  have KO2 : Hid (Only (fun k => k = eb) w (w.setCell ⟨eb, 28, none⟩ (.int .i64 0))) := only_setCell (S := fun k => k = eb) (only_refl _ _) (Or.inl rfl) _
  have HF := hid hf
  have H42 := hid h42
  clear hE hE2 hf h42
  go_enter Tryz.func41, Tryz.ntmps41
  go_wp2_with fail
  refine HAF.out.mono ?_
  rintro e w1 ⟨rfl, rfl⟩
  go_wp2_with fail
  generalize hw2 : w1.setCell ⟨eb, 28, none⟩ (.int .i64 0) = w2 at *
  clear hw2 c27 z27 HAF
  refine (receive_any eb w2).mono ?_
  rintro e w3 ⟨rfl, rfl⟩
  have le2 := KE2.out.lt
  have c28 := KE2.out.cell 29 (by omega)
  have c41 := KE2.out.cell 42 (by omega)
  obtain ⟨c42, z42⟩ := KE2.out.cells 43 (by omega)
  rw [H42.out] at c42
  have HR : Hid (Full (w3.setCell ⟨eb, 43, none⟩ (.slice none 0 0)) eb 144 44 44 E ∧ Only (fun k => k = eb) w1 (w3.setCell ⟨eb, 43, none⟩ (.slice none 0 0))) := by
    refine ⟨(KE2.out.upd 43 _).congr (fun j _ => ?_), only_setCell (S := fun k => k = eb) KO2.out (Or.inl rfl) _⟩
    by_cases e : j = 43
    · subst e; rw [upd_at, H42.out]
    · rw [upd_off _ _ _ _ e]
  obtain ⟨a, n, c, s28, so⟩ : ∃ (a : Option Addr) (n c : Nat), E 29 = .slice a n c ∧ (n = 0 ∨ E 42 = .bool true) := by
    rcases hr with rfl | rfl
    · obtain ⟨⟨a, c, h⟩, _⟩ := HF.out.2.1 rfl
      exact ⟨a, 0, c, h, Or.inl rfl⟩
    · obtain ⟨⟨a, n, c, h⟩, h'⟩ := HF.out.2.2 rfl
      exact ⟨a, n, c, h, Or.inr h'⟩
  rw [s28] at c28
  have hlv := lives_any eb n c a w3 c28
  by_cases hn : n = 0
  · subst hn
    have hd1 : decide (0 < 0) = false := rfl
    rw [hd1] at hlv
    have HLV := hid hlv
    clear hlv hd1 c28 c41 so s28
    go_wp2_with fail
    refine HLV.out.mono ?_
    rintro e w4 ⟨rfl, rfl⟩
    go_wp2_with fail
    go_ret
    exact ⟨rfl, HR.out⟩
  · have hd1 : decide (0 < n) = true := by simp; omega
    rw [hd1] at hlv
    have HLV := hid hlv
    rw [so.resolve_left hn] at c41
    clear hlv hd1 c28 so s28
    go_wp2_with fail
    refine HLV.out.mono ?_
    rintro e w4 ⟨rfl, rfl⟩
    go_wp2_with fail
    go_ret
    exact ⟨rfl, HR.out⟩

set_option maxRecDepth 100000 in
set_option maxHeartbeats 4000000 in
theorem estate_any (eb r n c m c' : Nat) (a a' : Option Addr) (w : World) (h41 : w.cell? ⟨eb, 42, none⟩ = some (.bool (decide (r = 2)))) (h28 : w.cell? ⟨eb, 29, none⟩ = some (.slice a n c)) (h31 : r = 0 → w.cell? ⟨eb, 32, none⟩ = some (.slice a' m c')) (hn : r = 0 → 0 < n ∧ 0 < m) (hn1 : r = 1 → n = 0) (hr : r < 3) :
    Calls Tryz.prog 42 #[P0 eb] w fun e w' => e = .returned (.int .i64 (if r = 0 then 1 else if r = 1 then 4 else 5)) ∧ w' = w := by
  have hlv := lives_any eb n c a w h28
  have : r = 0 ∨ r = 1 ∨ r = 2 := by omega
  rcases this with rfl | rfl | rfl
  · have hd1 : decide (0 < n) = true := by have := hn rfl; simp; omega
    have hem := empty_any eb 32 m c' a' w (h31 rfl)
    have hd2 : decide (m = 0) = false := by have := hn rfl; simp; omega
    rw [hd1] at hlv
    rw [hd2] at hem
    have HLV := hid hlv
    have HEM := hid hem
    clear hlv hem hd1 hd2 h28 hn hn1 h31
    have h41' : w.cell? ⟨eb, 42, none⟩ = some (.bool false) := h41
    clear h41
    go_enter Tryz.func42, Tryz.ntmps42
    go_wp2_with fail
    refine HLV.out.mono ?_
    rintro e w4 ⟨rfl, rfl⟩
    go_wp2_with fail
    refine HEM.out.mono ?_
    rintro e w4 ⟨rfl, rfl⟩
    go_wp2_with fail
    go_ret
    exact ⟨rfl, rfl⟩
  · have hn' := hn1 rfl
    subst hn'
    have hd1 : decide (0 < 0) = false := rfl
    rw [hd1] at hlv
    have HLV := hid hlv
    have h41' : w.cell? ⟨eb, 42, none⟩ = some (.bool false) := h41
    clear hlv hd1 h28 hn hn1 h41 h31
    go_enter Tryz.func42, Tryz.ntmps42
    go_wp2_with fail
    refine HLV.out.mono ?_
    rintro e w4 ⟨rfl, rfl⟩
    go_wp2_with fail
    go_ret
    exact ⟨rfl, rfl⟩
  · have h41' : w.cell? ⟨eb, 42, none⟩ = some (.bool true) := h41
    clear hlv h28 hn hn1 h41 h31
    go_enter Tryz.func42, Tryz.ntmps42
    go_wp2_with fail
    go_ret
    exact ⟨rfl, rfl⟩
end Go.Proofs.YtnjiinbhbjpfkaaGreatDoor

/-
  A machine's face: it is locked, the engine is asked, and it is unlocked by a deferred call.
-/
namespace Go.Proofs.YtnjiinbhbjpfkaaGreatDoor
open Go.RowKit

theorem disable (w : World) : (callFunc 122 #[]).run Tryz.prog w = .ok (.value (.tuple #[])) w := run_call_mark0 Tryz.func122 (by kernel_rfl) (by kernel_rfl) (by kernel_rfl) .disable (by kernel_rfl) w
theorem enable (w : World) : (callFunc 124 #[]).run Tryz.prog w = .ok (.value (.tuple #[])) w := run_call_mark0 Tryz.func124 (by kernel_rfl) (by kernel_rfl) (by kernel_rfl) .enable (by kernel_rfl) w
theorem acquire (a : Addr) (w : World) : (callFunc 125 #[.pointer (some a)]).run Tryz.prog w = .ok (.value (.tuple #[])) w := run_call_marked Tryz.func125 (by kernel_rfl) (by kernel_rfl) (by kernel_rfl) .acquire (by kernel_rfl) a w
theorem releaseMerge (a : Addr) (w : World) : (callFunc 127 #[.pointer (some a)]).run Tryz.prog w = .ok (.value (.tuple #[])) w := run_call_marked Tryz.func127 (by kernel_rfl) (by kernel_rfl) (by kernel_rfl) .releaseMerge (by kernel_rfl) a w

set_option maxRecDepth 100000 in
/-- Unlock, as a deferred call, the lock held. -/
theorem unlock_deferred (a : Addr) (u : FrameMode) (w : World) (hc : w.cell? a = some (.int .i32 1)) (hz : w.frozen? a = false) :
    CallsD Tryz.prog 40 #[.pointer (some a)] u w fun e u' w' => u' = u ∧ (e = .returned (.tuple #[]) ∧ w' = w.setCell a (.int .i32 0)) := by
  have hd := disable
  have he := enable
  have hr := releaseMerge
  have hcv := run_convert_to_unsafe (P := Tryz.prog) (src := 210) (dst := 214) Tryz.underlying210 Tryz.underlying214 (by kernel_rfl) hc
  have hadd := run_call_add (P := Tryz.prog) Tryz.func128 (by kernel_rfl) (by kernel_rfl) (by kernel_rfl) .i32 (by kernel_rfl) (y := -1) (s := 0) hc hz (by simp [go_sem]; rfl)
  go_enter_d Tryz.func40, Tryz.ntmps40
  go_wp2
  go_end0
  go_wp2
  go_end0
  exact ⟨rfl, rfl⟩

set_option maxRecDepth 100000 in
/-- Lock, the lock free. -/
theorem lock_any (b : Nat) (w : World) (h0 : w.cell? ⟨b, 0, none⟩ = some (.int .i32 0)) (f0 : w.frozen? ⟨b, 0, none⟩ = false) :
    Calls Tryz.prog 39 #[P0 b] w fun e w' => e = .returned (.tuple #[]) ∧ w' = w.setCell ⟨b, 0, none⟩ (.int .i32 1) := by
  have hd := disable
  have he := enable
  have ha := acquire
  have hcas := run_call_cas_hit (P := Tryz.prog) Tryz.func123 (by kernel_rfl) (by kernel_rfl) (by kernel_rfl) .i32 (by kernel_rfl) (y := 1) h0 f0
  have h0' : (w.setCell ⟨b, 0, none⟩ (.int .i32 1)).cell? ⟨b, 0, none⟩ = some (.int .i32 1) := by simp [go_sem, h0]
  have hcv := run_convert_to_unsafe (P := Tryz.prog) (src := 210) (dst := 214) Tryz.underlying210 Tryz.underlying214 (by kernel_rfl) h0'
  go_enter Tryz.func39, Tryz.ntmps39
  go_wp2
  first | go_end0 | (simp only [Exit.inBlock, Exit.then]; refine bodyPost_ret (results_none rfl _ _ _) rfl ?_) | refine bodyPost_ret (results_none rfl _ _ _) rfl ?_
  go_wp2
  go_end0
  exact ⟨rfl, rfl⟩

/-- Turn: the engine's, between lock and unlock. -/
theorem turn_face (mb eb : Nat) (ticks : Int) (v0 : Value) (hv0 : v0 = .slice none 0 0) (w : World) (h0 : w.cell? ⟨mb, 0, none⟩ = some (.int .i32 0)) (f0 : w.frozen? ⟨mb, 0, none⟩ = false) (h2 : w.cell? ⟨mb, 2, none⟩ = some (P0 eb)) (R : Value → World → Prop)
    (hE : Hid (Calls Tryz.prog 41 #[P0 eb, .int .i64 ticks, v0] (w.setCell ⟨mb, 0, none⟩ (.int .i32 1)) fun e w' => ∃ ad n c, e = .returned (.slice ad n c) ∧ w'.cell? ⟨mb, 0, none⟩ = some (.int .i32 1) ∧ w'.frozen? ⟨mb, 0, none⟩ = false ∧ R (.slice ad n c) w')) :
    Calls Tryz.prog 24 #[P0 mb, .int .i64 ticks, v0] w fun e w' => ∃ v w1, e = .returned v ∧ R v w1 ∧ w' = w1.setCell ⟨mb, 0, none⟩ (.int .i32 0) := by
  subst hv0
  go_enter_defers Tryz.func24, Tryz.ntmps24
  go_wp2_with fail
  refine (lock_any mb w h0 f0).mono ?_
  rintro e w1 ⟨rfl, rfl⟩
  go_wp2_with fail
  refine hE.out.mono ?_
  rintro e w2 ⟨ad, n, c, rfl, c0, c1, hR⟩
  have HR : Hid (R (.slice ad n c) w2) := hR
  clear hR
  go_wp2_with fail
  refine leaves_cons (f := 40) (args := #[P0 mb]) (by simp) (by simp [go_sem]) ?_
  refine (unlock_deferred ⟨mb, 0, none⟩ .returning _ c0 c1).mono ?_
  rintro e u' w'' ⟨rfl, rfl, rfl⟩
  exact ⟨_, results_tmp rfl _ _ _, .slice ad n c, w2, rfl, HR.out, rfl⟩

/-- State: the engine's, between lock and unlock. -/
theorem state_face (mb eb : Nat) (x : Int) (w : World) (h0 : w.cell? ⟨mb, 0, none⟩ = some (.int .i32 0)) (f0 : w.frozen? ⟨mb, 0, none⟩ = false) (h2 : w.cell? ⟨mb, 2, none⟩ = some (P0 eb))
    (hE : Hid (Calls Tryz.prog 42 #[P0 eb] (w.setCell ⟨mb, 0, none⟩ (.int .i32 1)) fun e w' => e = .returned (.int .i64 x) ∧ w' = w.setCell ⟨mb, 0, none⟩ (.int .i32 1))) :
    Calls Tryz.prog 25 #[P0 mb] w fun e w' => e = .returned (.int .i64 x) ∧ w' = (w.setCell ⟨mb, 0, none⟩ (.int .i32 1)).setCell ⟨mb, 0, none⟩ (.int .i32 0) := by
  go_enter_defers Tryz.func25, Tryz.ntmps25
  go_wp2_with fail
  refine (lock_any mb w h0 f0).mono ?_
  rintro e w1 ⟨rfl, rfl⟩
  go_wp2_with fail
  refine hE.out.mono ?_
  rintro e w2 ⟨rfl, rfl⟩
  go_wp2_with fail
  refine leaves_cons (f := 40) (args := #[P0 mb]) (by simp) (by simp [go_sem]) ?_
  refine (unlock_deferred ⟨mb, 0, none⟩ .returning _ (by simp [go_sem, h0]) (by simp [go_sem, f0])).mono ?_
  rintro e u' w'' ⟨rfl, rfl, rfl⟩
  exact ⟨_, results_tmp rfl _ _ _, rfl, rfl⟩
end Go.Proofs.YtnjiinbhbjpfkaaGreatDoor
