/-
  The program's engine is made: 'New' of package engine gives one, and writes into new memory alone, where the functions lie as the text says.
-/
import Derived.Test.YtohobhbcjikhpaaDoorEng
namespace Go.Proofs.YtohobhbcjikhpaaDoor
open Go.RowKit

/-- The engine's block as it is made first, its table's closures from b on. -/
def eng0 (fs : Value) (q : Int) (b : Nat) : Array Value := #[fs, .int .i64 q, Fv 75 #[P0 (b + 2)], Fv 75 #[P0 (b + 4)], Fv 65 #[P0 (b + 5)], Fv 65 #[P0 (b + 6)], Fv 65 #[P0 (b + 7)], Fv 65 #[P0 (b + 8)], Fv 75 #[P0 (b + 10)], Fv 75 #[P0 (b + 12)], Fv 75 #[P0 (b + 14)], Fv 75 #[P0 (b + 16)], Fv 44 #[], Fv 45 #[], Fv 75 #[P0 (b + 18)], Fv 47 #[], Fv 75 #[P0 (b + 19)], Fv 51 #[], Fv 75 #[P0 (b + 20)], Fv 51 #[], Fv 51 #[], Fv 51 #[], Fv 54 #[], Fv 51 #[], Fv 75 #[P0 (b + 22)], .pointer none, .slice none 0 0, .slice none 0 0, .slice none 0 0, .slice none 0 0, .int .i64 0, .slice none 0 0, .int .i64 0, .slice none 0 0, .bool false, .slice none 0 0]

set_option maxRecDepth 100000 in
set_option maxHeartbeats 2000000 in
theorem engNew_any (g n s0 c0 r0 : Nat) (c1 c2 c3 : Int) (cl : Nat) (w : World) (h1 : w.cell? ⟨g, 0, none⟩ = some (.int .i64 r0)) (h2 : w.cell? ⟨g, 1, none⟩ = some (.slice (some ⟨s0, 0, none⟩) c0 c0)) (hg : g < w.heap.size) (hn : 1 ≤ n) (hr : 2 ≤ r0) (hr2 : r0 ≤ 8) (hc1 : 1 ≤ cl) (hc2 : cl ≤ 200) :
    Calls Tryd.prog 11 #[.slice (some ⟨g, 0, none⟩) n n, .agg #[.int .i64 cl, .int .i64 c1, .int .i64 c2, .int .i64 c3]] w fun e w' => (∃ eb, e = .returned (P0 eb)) ∧ Below w.heap.size w w' := by
  have H1 : Hid (w.cell? ⟨g, 0, none⟩ = some (.int .i64 r0)) := h1
  have H2 : Hid (w.cell? ⟨g, 1, none⟩ = some (.slice (some ⟨s0, 0, none⟩) c0 c0)) := h2
  clear h1 h2
  go_enter Tryd.func11, Tryd.ntmps11
  go_wp2_with fail
  generalize hw1 : w.alloc (.cells #[.int .i64 cl, .int .i64 c1, .int .i64 c2, .int .i64 c3] 23) = w1
  have hz1 : w1.heap.size = w.heap.size + 1 := by rw [← hw1]; simp
  have b0 : w1.cell? ⟨w.heap.size, 0, none⟩ = some (.int .i64 cl) := by rw [← hw1]; simp [go_sem]
  have b1 : w1.cell? ⟨w.heap.size, 1, none⟩ = some (.int .i64 c1) := by rw [← hw1]; simp [go_sem]
  have KB1 : Hid (Below w.heap.size w w1) := by show Below _ _ _; rw [← hw1]; exact (Below.refl _ _).alloc (Nat.le_refl _) _
  clear hw1
  generalize hN : w.heap.size = N at *
  have l0 : N < w1.heap.size := by omega
  have hS : Hid (w1.drew.heap.size = N + 1) := hz1
  go_cut [5] from 6 to 11 (fun x wx => ∃ (w2 : World), x = P0 w2.heap.size ∧ wx = w2.alloc (.cells (eng0 (.slice (some ⟨g, 0, none⟩) n n) c1 (N + 1)) 87) ∧ Hid (Below w1.heap.size w1 w2) ∧ w2.heap.size = N + 24)
  case first =>
    go_region_with (go_at_call 16; refine (actions_b (N + 1) w1.drew hS).mono ?_; rintro e w2 ⟨rfl, hB2, hz2, ha2⟩; have b1' : w2.cell? ⟨N, 1, none⟩ = some (.int .i64 c1) := ((hB2.cell (p := ⟨N, 1, none⟩) l0).trans b1))
    all_goals
      go_wp2_with fail
      go_meet
      case rel => exact ⟨w2, by rw [hz2], rfl, ⟨hB2.os, hB2.tape, hB2.output, hB2.size, hB2.block⟩, hz2⟩
  case rest =>
    obtain ⟨w2, rfl, hwx, hB2, hz2⟩ := hcut
    have hz3 : wc.heap.size = N + 25 := by rw [hwx]; simp; omega
    have KB3 : Hid (Below N w wc) := by
      show Below _ _ _
      rw [hwx]
      exact (KB1.out.trans (hB2.out.mono (by omega))).alloc (by omega) _
    have c0' : wc.cell? ⟨N, 0, none⟩ = some (.int .i64 cl) := by
      have e1 : wc.cell? ⟨N, 0, none⟩ = w2.cell? ⟨N, 0, none⟩ := by rw [hwx]; exact World.cell?_of_block (Below.heap_alloc _ _ _ (by show N < _; omega))
      rw [e1]
      exact (hB2.out.cell (p := ⟨N, 0, none⟩) l0).trans b0
    have hbE : wc.heap[N + 24]? = some (.cells (eng0 (.slice (some ⟨g, 0, none⟩) n n) c1 (N + 1)) 87 (0, 0)) := by rw [hwx, ← hz2]; exact heap_alloc_new _ _
    have e0 : wc.cell? ⟨N + 24, 0, none⟩ = some (.slice (some ⟨g, 0, none⟩) n n) := by simp [World.cell?, hbE, eng0]
    have e25 : wc.cell? ⟨N + 24, 25, none⟩ = some (.pointer none) := by simp [World.cell?, hbE, eng0]
    have e31 : wc.cell? ⟨N + 24, 31, none⟩ = some (.slice none 0 0) := by simp [World.cell?, hbE, eng0]
    have e32 : wc.cell? ⟨N + 24, 32, none⟩ = some (.int .i64 0) := by simp [World.cell?, hbE, eng0]
    have e33 : wc.cell? ⟨N + 24, 33, none⟩ = some (.slice none 0 0) := by simp [World.cell?, hbE, eng0]
    have f25 : wc.frozen? ⟨N + 24, 25, none⟩ = false := by simp [World.frozen?, hbE]
    have f31 : wc.frozen? ⟨N + 24, 31, none⟩ = false := by simp [World.frozen?, hbE]
    have f32 : wc.frozen? ⟨N + 24, 32, none⟩ = false := by simp [World.frozen?, hbE]
    have f33 : wc.frozen? ⟨N + 24, 33, none⟩ = false := by simp [World.frozen?, hbE]
    rw [hz2]
    clear hwx hbE hB2 b0 b1 KB1 hz1 l0 hS hz2
    generalize hE : N + 24 = eb at *
    have g1 : wc.cell? ⟨g, 0, none⟩ = some (.int .i64 r0) := (KB3.out.cell (p := ⟨g, 0, none⟩) hg).trans H1.out
    have g2 : wc.cell? ⟨g, 1, none⟩ = some (.slice (some ⟨s0, 0, none⟩) c0 c0) := (KB3.out.cell (p := ⟨g, 1, none⟩) hg).trans H2.out
    go_wp2_with fail
    refine (cellsNew_any cl _ _ _ hc1 hc2 _).mono ?_
    rintro e w4 ⟨⟨sb, rfl⟩, hB4⟩
    have hz4 := hB4.size
    have o0 : eb < wc.heap.size := by omega
    rw [← hB4.cell (p := ⟨eb, 0, none⟩) o0] at e0
    rw [← hB4.cell (p := ⟨eb, 25, none⟩) o0] at e25
    rw [← hB4.cell (p := ⟨eb, 31, none⟩) o0] at e31
    rw [← hB4.cell (p := ⟨eb, 32, none⟩) o0] at e32
    rw [← hB4.cell (p := ⟨eb, 33, none⟩) o0] at e33
    rw [← hB4.frozen (p := ⟨eb, 25, none⟩) o0] at f25
    rw [← hB4.frozen (p := ⟨eb, 31, none⟩) o0] at f31
    rw [← hB4.frozen (p := ⟨eb, 32, none⟩) o0] at f32
    rw [← hB4.frozen (p := ⟨eb, 33, none⟩) o0] at f33
    rw [← hB4.cell (p := ⟨g, 0, none⟩) (by show g < _; omega)] at g1
    rw [← hB4.cell (p := ⟨g, 1, none⟩) (by show g < _; omega)] at g2
    have KB4 : Hid (Below N w w4) := KB3.out.trans (hB4.mono (by omega))
    have o1 : eb < w4.heap.size := by omega
    clear hB4 KB3 c0'
    go_wp2_with fail
    refine (number_any 0 _).mono ?_
    rintro e w5 ⟨rfl, rfl⟩
    go_wp2_with fail
    refine (number_any 0 _).mono ?_
    rintro e w6 ⟨rfl, rfl⟩
    go_wp2_with fail
    have o2 : eb < w4.heap.size + 1 := by omega
    have o3 : g < w4.heap.size := by omega
    have o4 : g < w4.heap.size + 1 := by omega
    have ng : ¬ g = eb := by omega
    refine (begin_first eb g n s0 c0 r0 _ (by simp [go_sem, o1, o2, e0]) (by simp [go_sem, o3, o4, g1]) (by simp [go_sem, o3, o4, g2]) (by simp [go_sem, o1, o2, e31]) (by simp [go_sem, o1, o2, e32]) (by simp [go_sem, o1, o2, e33]) (by simp [go_sem, o1, o2, f31]) (by simp [go_sem, o1, o2, f32]) (by simp [go_sem, o1, o2, f33]) (by simp [World.setCell]; omega) (by simp [World.setCell]; omega) ng hn hr hr2).mono ?_
    rintro e w7 ⟨rfl, hg7⟩
    have KB7 : Hid (Below N w w7) := by
      have h0 : Below N w (((w4.setCell ⟨eb, 25, none⟩ (P0 sb)).alloc (.cells #[.int .i64 0, .int .i64 0] 92)).alloc (.cells #[.int .i64 0, .int .i64 0] 92)) :=
        ((KB4.out.setCell (by show N ≤ eb; omega) _).alloc (by simp [World.setCell]; omega) _).alloc (by simp [World.setCell]; omega) _
      refine h0.trans ⟨hg7.os, hg7.tape, hg7.output, hg7.size, fun k hk => hg7.block k ?_ (by intro e; injection e; omega)⟩
      simp [World.setCell]; omega
    clear hg7 KB4 e0 e25 e31 e32 e33 f25 f31 f32 f33 g1 g2
    go_wp2_with fail
    go_ret
    exact ⟨⟨_, rfl⟩, by rw [hN]; exact KB7.out⟩
end Go.Proofs.YtohobhbcjikhpaaDoor
