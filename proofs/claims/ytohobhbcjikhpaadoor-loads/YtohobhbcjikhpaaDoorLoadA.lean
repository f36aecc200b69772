/-
  The program's Load tells what 'told' says, for every text and configuration, where the variable of the operands' letters holds its table.
-/
import Derived.Test.YtohobhbcjikhpaaDoorNew
namespace Go.Proofs.YtohobhbcjikhpaaDoor
open Go.RowKit

def Read3 (s : ByteArray) (w w' : World) (e : Ending) (r : Nat × Bool) : Prop := ∃ (ad : Option Addr) (n c : Nat), e = .returned (.tuple #[.slice ad n c, .int .i64 (if r.2 = true then 0 else (r.1 : Int)), .bool r.2]) ∧
  (r.2 = true → n = M.bt s 0 ∧ c = n ∧ 1 ≤ n ∧ n ≤ 8 ∧ ∃ g, ad = some ⟨g, 0, none⟩ ∧ Fns w' s w.heap.size g n n)

set_option maxHeartbeats 400000 in
theorem read_any (s : ByteArray) (w : World) (hs : s.size ≤ maxLen) (hT : Tab w) :
    Calls Tryd.prog 10 #[.string s] w fun e w' => Read3 s w w' e (M.prg s) ∧ Below w.heap.size w w' := by
  have hn : w.heap.size ≠ 0 := by have := hT.1; omega
  have HS : Hid (s.size ≤ maxLen) := hs
  have KT0 : Hid (Tab w) := hT
  clear hs hT
  go_enter Tryd.func10, Tryd.ntmps10
  go_wp2_with fail
  refine (program_any w.heap.size s 0 0 0 (w.alloc (.cells #[.string s, .int .i64 0, .int .i64 0, .int .i64 0, .int .i64 0] 74)) (heap_alloc_new w _) HS.out hn (KT0.out.alloc _)).mono ?_
  rintro e w1 ⟨⟨ad, n, c, rfl, hA⟩, f', r', l', hh, hg⟩
  have HA : Hid ((M.prg s).2 = true → n = M.bt s 0 ∧ c = n ∧ 1 ≤ n ∧ n ≤ 8 ∧ ∃ g, ad = some ⟨g, 0, none⟩ ∧ Fns w1 s w.heap.size g n n) := fun h => by
    obtain ⟨a1, a2, a3, a4, g, a5, a6, a7⟩ := hA h
    exact ⟨a1, a2, a3, a4, g, a5, by have := a6; simp at this; omega, a7⟩
  clear hA
  have hB := below_of_grown hg
  obtain ⟨x0, x1, _, _, _⟩ := rdA_cells hh
  clear hh hg
  generalize hR : M.prg s = R at *
  have HR : Hid (M.prg s = R) := hR
  clear hR
  obtain ⟨P, ok⟩ := R
  cases ok
  · go_wp2_with fail
    go_quiet (fail)
    go_wp2_with fail
    go_ret3
    exact ⟨by rw [HR.out]; exact ⟨_, _, _, rfl, fun h => by cases h⟩, below_drewN hB _⟩
  · go_wp2_with fail
    go_ret3
    exact ⟨by rw [HR.out]; exact ⟨_, _, _, rfl, fun _ => HA.out trivial⟩, hB⟩

def inB (n m : Int) : Bool := decide (1 ≤ n ∧ n ≤ m)

theorem within_any (n m : Int) (w : World) : Calls Tryd.prog 14 #[.int .i64 n, .int .i64 m] w fun e w' => e = .returned (.bool (inB n m)) ∧ w' = w := by
  by_cases h1 : 1 ≤ n
  · by_cases h2 : n ≤ m
    · have e : inB n m = true := by simp [inB]; omega
      rw [e]; clear e
      go_enter Tryd.func14, Tryd.ntmps14
      go_wp2
      go_ret
      exact ⟨rfl, rfl⟩
    · have e : inB n m = false := by simp [inB]; omega
      rw [e]; clear e
      have h3 : decide (n ≤ m) = false := by simpa using h2
      go_enter Tryd.func14, Tryd.ntmps14
      go_wp2
      go_ret
      exact ⟨rfl, rfl⟩
  · have e : inB n m = false := by simp [inB]; omega
    rw [e]; clear e
    have h3 : decide (1 ≤ n) = false := by simpa using h1
    go_enter Tryd.func14, Tryd.ntmps14
    go_wp2
    go_ret
    exact ⟨rfl, rfl⟩

def okC (c0 c1 c2 c3 : Int) : Bool := inB c0 200 && (inB c1 50 && (inB c2 50 && inB c3 16))

theorem maybe_any (c0 c1 c2 c3 : Int) (w : World) : Calls Tryd.prog 9 #[.agg #[.int .i64 c0, .int .i64 c1, .int .i64 c2, .int .i64 c3]] w fun e w' => e = .returned (.bool (okC c0 c1 c2 c3)) ∧ Below w.heap.size w w' := by
  unfold okC
  cases h0 : inB c0 200
  · have H0 : Hid (inB c0 200 = false) := h0
    clear h0
    go_enter Tryd.func9, Tryd.ntmps9
    go_wp2_with fail
    refine (within_any _ _ _).mono ?_
    rintro e w1 ⟨rfl, rfl⟩
    rw [H0.out]
    go_wp2_with fail
    go_ret
    exact ⟨rfl, (Below.refl _ _).alloc (Nat.le_refl _) _⟩
  · cases h1 : inB c1 50
    · have H0 : Hid (inB c0 200 = true) := h0
      have H1 : Hid (inB c1 50 = false) := h1
      clear h0 h1
      go_enter Tryd.func9, Tryd.ntmps9
      go_wp2_with fail
      refine (within_any _ _ _).mono ?_
      rintro e w1 ⟨rfl, rfl⟩
      rw [H0.out]
      go_wp2_with fail
      refine (within_any _ _ _).mono ?_
      rintro e w1 ⟨rfl, rfl⟩
      rw [H1.out]
      go_wp2_with fail
      go_ret
      exact ⟨rfl, (Below.refl _ _).alloc (Nat.le_refl _) _⟩
    · cases h2 : inB c2 50
      · have H0 : Hid (inB c0 200 = true) := h0
        have H1 : Hid (inB c1 50 = true) := h1
        have H2 : Hid (inB c2 50 = false) := h2
        clear h0 h1 h2
        go_enter Tryd.func9, Tryd.ntmps9
        go_wp2_with fail
        refine (within_any _ _ _).mono ?_
        rintro e w1 ⟨rfl, rfl⟩
        rw [H0.out]
        go_wp2_with fail
        refine (within_any _ _ _).mono ?_
        rintro e w1 ⟨rfl, rfl⟩
        rw [H1.out]
        go_wp2_with fail
        refine (within_any _ _ _).mono ?_
        rintro e w1 ⟨rfl, rfl⟩
        rw [H2.out]
        go_wp2_with fail
        go_ret
        exact ⟨rfl, (Below.refl _ _).alloc (Nat.le_refl _) _⟩
      · have H0 : Hid (inB c0 200 = true) := h0
        have H1 : Hid (inB c1 50 = true) := h1
        have H2 : Hid (inB c2 50 = true) := h2
        clear h0 h1 h2
        generalize hx : inB c3 16 = x
        have H3 : Hid (inB c3 16 = x) := hx
        clear hx
        go_enter Tryd.func9, Tryd.ntmps9
        go_wp2_with fail
        refine (within_any _ _ _).mono ?_
        rintro e w1 ⟨rfl, rfl⟩
        rw [H0.out]
        go_wp2_with fail
        refine (within_any _ _ _).mono ?_
        rintro e w1 ⟨rfl, rfl⟩
        rw [H1.out]
        go_wp2_with fail
        refine (within_any _ _ _).mono ?_
        rintro e w1 ⟨rfl, rfl⟩
        rw [H2.out]
        go_wp2_with fail
        refine (within_any _ _ _).mono ?_
        rintro e w1 ⟨rfl, rfl⟩
        rw [H3.out]
        go_wp2_with fail
        go_ret
        exact ⟨by simp, (Below.refl _ _).alloc (Nat.le_refl _) _⟩

/-- What a Load tells: the fault's number, its place; is there a machine? -/
def told (s : ByteArray) (c0 c1 c2 c3 : Int) : Int × Int × Bool :=
  if okC c0 c1 c2 c3 = true then (if (M.prg s).2 = true then (0, 0, true) else (2, ((M.prg s).1 : Int), false)) else (1, 0, false)

def ptrIs (v : Value) (there : Bool) : Prop := (there = true ∧ ∃ a, v = .pointer (some a)) ∨ (there = false ∧ v = .pointer none)

def Load2 (e : Ending) (t : Int × Int × Bool) : Prop := ∃ v, ptrIs v t.2.2 ∧ e = .returned (.tuple #[v, .agg #[.int .i64 t.1, .int .i64 t.2.1]])

set_option maxHeartbeats 400000 in
theorem loadA_any (s : ByteArray) (c0 c1 c2 c3 : Int) (w : World) (hs : s.size ≤ maxLen) (hT : Tab w) :
    Calls Tryd.prog 6 #[.string s, .agg #[.int .i64 c0, .int .i64 c1, .int .i64 c2, .int .i64 c3]] w fun e w' => Load2 e (told s c0 c1 c2 c3) ∧ Below w.heap.size w w' := by
  have HS : Hid (s.size ≤ maxLen) := hs
  have KT0 : Hid (Tab w) := hT
  clear hs hT
  go_enter Tryd.func6, Tryd.ntmps6
  go_wp2_with fail
  refine (maybe_any _ _ _ _ _).mono ?_
  rintro e w1 ⟨rfl, hB⟩
  obtain ⟨hc, hf⟩ := bcell hB
  have hz := hB.size
  simp at hz
  have hB1 : Below w.heap.size w w1 := (((Below.refl _ _).alloc (Nat.le_refl _) _).alloc (by simp) _).trans (hB.mono (by simp; omega))
  have KB1 : Hid (Below w.heap.size w w1) := hB1
  clear hB hB1
  cases hok : okC c0 c1 c2 c3
  · have HOK : Hid (okC c0 c1 c2 c3 = false) := hok
    clear hok
    go_wp2_with fail
    refine bodyPost_ret (v := .tuple #[.pointer none, .agg #[.int .i64 1, .int .i64 0]]) (by simp [results, Tryd.results6, go_sem, *]) rfl ⟨?_, ?_⟩
    · have e : told s c0 c1 c2 c3 = (1, 0, false) := by unfold told; rw [if_neg (by rw [HOK.out]; simp)]
      rw [e]; exact ⟨_, Or.inr ⟨rfl, rfl⟩, rfl⟩
    · repeat (refine Below.setCell ?_ (by simp) _)
      exact KB1.out
  · have HOK : Hid (okC c0 c1 c2 c3 = true) := hok
    clear hok
    go_wp2_with fail
    refine (read_any s _ HS.out (KT0.out.below KB1.out)).mono ?_
    rintro e w2 ⟨⟨ad, n, c, rfl, hA⟩, hB2⟩
    have HA : Hid ((M.prg s).2 = true → n = M.bt s 0 ∧ c = n ∧ 1 ≤ n ∧ n ≤ 8 ∧ ∃ g, ad = some ⟨g, 0, none⟩ ∧ Fns w2 s w1.heap.size g n n) := hA
    clear hA
    have hz2 := hB2.size
    have l0 : w.heap.size < w1.heap.size := by omega
    have l1 : w.heap.size + 1 < w1.heap.size := by omega
    obtain ⟨hc2, hf2⟩ := bcell hB2
    have d0 : w2.cell? ⟨w.heap.size + 1, 0, none⟩ = some (.int .i64 0) := by rw [hc2 _ _ l1, hc _ _ (by simp)]; simp
    have d1 : w2.cell? ⟨w.heap.size + 1, 1, none⟩ = some (.int .i64 0) := by rw [hc2 _ _ l1, hc _ _ (by simp)]; simp
    have e0 : w2.frozen? ⟨w.heap.size + 1, 0, none⟩ = false := by rw [hf2 _ _ l1, hf _ _ (by simp)]; simp
    have e1 : w2.frozen? ⟨w.heap.size + 1, 1, none⟩ = false := by rw [hf2 _ _ l1, hf _ _ (by simp)]; simp
    have g0 : w2.cell? ⟨w.heap.size, 0, none⟩ = some (.int .i64 c0) := by rw [hc2 _ _ l0, hc _ _ (by simp; omega)]; simp
    have g1 : w2.cell? ⟨w.heap.size, 1, none⟩ = some (.int .i64 c1) := by rw [hc2 _ _ l0, hc _ _ (by simp; omega)]; simp
    have g2 : w2.cell? ⟨w.heap.size, 2, none⟩ = some (.int .i64 c2) := by rw [hc2 _ _ l0, hc _ _ (by simp; omega)]; simp
    have g3 : w2.cell? ⟨w.heap.size, 3, none⟩ = some (.int .i64 c3) := by rw [hc2 _ _ l0, hc _ _ (by simp; omega)]; simp
    have l2 : w.heap.size + 1 < w2.heap.size := by omega
    have l3 : w.heap.size < w2.heap.size := by omega
    have KB2 : Hid (Below w.heap.size w w2) := KB1.out.trans (hB2.mono KB1.out.size)
    clear hB2 KB1 hc hf hc2 hf2 hz hz2 l0 l1
    generalize hR : M.prg s = R at *
    have HR : Hid (M.prg s = R) := hR
    clear hR
    obtain ⟨P, ok⟩ := R
    cases ok
    · go_wp2_with fail
      refine bodyPost_ret (v := .tuple #[.pointer none, .agg #[.int .i64 2, .int .i64 P]]) (by simp [results, Tryd.results6, go_sem, d0, d1]) rfl ⟨?_, ?_⟩
      · have e : told s c0 c1 c2 c3 = (2, (P : Int), false) := by unfold told; rw [if_pos HOK.out, HR.out]; rfl
        rw [e]; exact ⟨_, Or.inr ⟨rfl, rfl⟩, rfl⟩
      · repeat (refine Below.setCell ?_ (by simp) _)
        exact KB2.out
    · obtain ⟨hA1, hA2, hA3, hA4, g, hA5, hA6⟩ := HA.out rfl
      subst hA2 hA5
      obtain ⟨hg1, gs, hg2, hg3⟩ := hA6
      obtain ⟨k1, k2, k3, k4, k5, k6⟩ := hg3 0 (by omega)
      have q0 := hg2.cell 0 (by omega)
      have q1 := hg2.cell 1 (by omega)
      have q2 := hg2.lt
      clear HA hg2 hg3 k6 hA1
      simp only [fnsP, Nat.zero_mod, if_pos, show ¬ (1 % 2 = 0) by omega, if_neg, not_false_eq_true, show 1 / 2 = 0 by omega] at q0 q1
      generalize M.bt s (M.pos s 0) = r0 at *
      generalize M.bt s (M.pos s 0 + 1) = m0 at *
      generalize gs 0 = s0 at *
      have hcl : 1 ≤ c0 ∧ c0 ≤ 200 := by have := HOK.out; simp [okC, inB] at this; omega
      obtain ⟨cl, rfl⟩ : ∃ cl : Nat, c0 = (cl : Int) := ⟨c0.toNat, by omega⟩
      go_wp2_with fail
      refine (engNew_any g c s0 m0 r0 c1 c2 c3 cl w2 q0 q1 q2 hA3 k2 k3 (by omega) (by omega)).mono ?_
      rintro e w3 ⟨⟨eb, rfl⟩, hB3⟩
      have hz3 := hB3.size
      have KB3 : Hid (Below w.heap.size w w3) := KB2.out.trans (hB3.mono (by omega))
      rw [← hB3.cell (p := ⟨w.heap.size + 1, 0, none⟩) l2] at d0
      rw [← hB3.cell (p := ⟨w.heap.size + 1, 1, none⟩) l2] at d1
      rw [← hB3.frozen (p := ⟨w.heap.size + 1, 0, none⟩) l2] at e0
      rw [← hB3.frozen (p := ⟨w.heap.size + 1, 1, none⟩) l2] at e1
      have l4 : w.heap.size + 1 < w3.heap.size := by omega
      clear hB3 q0 q1 g0 g1 g2 g3 KB2
      go_wp2_with fail
      refine bodyPost_ret (v := .tuple #[.pointer (some ⟨w3.heap.size, 0, none⟩), .agg #[.int .i64 0, .int .i64 0]]) (by simp [results, Tryd.results6, go_sem, d0, d1, l4]) rfl ⟨?_, ?_⟩
      · have e : told s cl c1 c2 c3 = (0, 0, true) := by unfold told; rw [if_pos HOK.out, HR.out]; rfl
        rw [e]; exact ⟨_, Or.inl ⟨rfl, _, rfl⟩, rfl⟩
      · repeat (first | exact KB3.out | refine Below.setCell ?_ (by simp) _ | refine Below.alloc ?_ (by simp [World.setCell]; omega) _)

end Go.Proofs.YtohobhbcjikhpaaDoor
