/-
  The laws 'load' and 'Loads' answer true, for every text and configuration, where the variable of the operands' letters holds its table.
-/
import Derived.Test.YtohobhbcjikhpaaDoorLoadB
namespace Go.Proofs.YtohobhbcjikhpaaDoor
open Go.RowKit

theorem num_any (n : Int) (w : World) : Calls Tryd.prog 8 #[.int .i64 n] w fun e w' => e = .returned (.int .i64 n) ∧ w' = w := by
  go_enter Tryd.func8, Tryd.ntmps8
  go_wp2
  go_ret
  exact ⟨rfl, rfl⟩

set_option maxRecDepth 100000 in
set_option maxHeartbeats 1000000 in
theorem load_any (s : ByteArray) (c0 c1 c2 c3 : Int) (w : World) (hs : s.size ≤ maxLen) (hs2 : s.size ≤ 140737488355328) (hT : Tab w) :
    Calls Tryd.prog 4 #[.string s, .agg #[.int .i64 c0, .int .i64 c1, .int .i64 c2, .int .i64 c3]] w fun e w' => (∃ v, ptrIs v (told s c0 c1 c2 c3).2.2 ∧ e = .returned (.tuple #[v, .bool true])) ∧ Below w.heap.size w w' := by
  have HS : Hid (s.size ≤ maxLen) := hs
  have KT : Hid (Tab w) := hT
  clear hs hT
  go_enter Tryd.func4, Tryd.ntmps4
  go_wp2_with fail
  refine (loadA_any s c0 c1 c2 c3 _ HS.out (KT.out.alloc _)).mono ?_
  rintro e w1 ⟨⟨va, hva, rfl⟩, hB1⟩
  obtain ⟨hc, hf⟩ := bcell hB1
  have hz := hB1.size
  simp at hz
  have KB1 : Hid (Below w.heap.size w w1) := ((Below.refl _ _).alloc (Nat.le_refl _) _).trans (hB1.mono (by simp))
  have a0 : w1.cell? ⟨w.heap.size, 0, none⟩ = some (.int .i64 c0) := by rw [hc _ _ (by simp)]; simp [go_sem]
  have a1 : w1.cell? ⟨w.heap.size, 1, none⟩ = some (.int .i64 c1) := by rw [hc _ _ (by simp)]; simp [go_sem]
  have a2 : w1.cell? ⟨w.heap.size, 2, none⟩ = some (.int .i64 c2) := by rw [hc _ _ (by simp)]; simp [go_sem]
  have a3 : w1.cell? ⟨w.heap.size, 3, none⟩ = some (.int .i64 c3) := by rw [hc _ _ (by simp)]; simp [go_sem]
  clear hc hf hB1
  generalize hT : told s c0 c1 c2 c3 = T at *
  have HT : Hid (told s c0 c1 c2 c3 = T) := hT
  clear hT
  obtain ⟨t1, t2, t3⟩ := T
  simp only at hva
  have l0 : w.heap.size < w1.heap.size := by omega
  go_wp2_with fail
  refine (loadB_any s c0 c1 c2 c3 _ HS.out hs2).mono ?_
  rw [HT.out]
  rintro e w2 ⟨⟨vb, hvb, rfl⟩, hB2⟩
  obtain ⟨hc, hf⟩ := bcell hB2
  have hz2 := hB2.size
  simp at hz2
  have KB2 : Hid (Below w.heap.size w w2) := (KB1.out.alloc (by omega) _).trans (hB2.mono (by simp; omega))
  have f0 : w2.cell? ⟨w1.heap.size, 0, none⟩ = some (.int .i64 t1) := by rw [hc _ _ (by simp)]; simp [go_sem]
  have f1 : w2.cell? ⟨w1.heap.size, 1, none⟩ = some (.int .i64 t2) := by rw [hc _ _ (by simp)]; simp [go_sem]
  clear hc hf hB2 a0 a1 a2 a3 KB1
  have l1 : w1.heap.size < w2.heap.size := by omega
  have n1 : (t1 != t1) = false := by simp
  have n2 : (t2 != t2) = false := by simp
  simp only at hvb
  rcases hva with ⟨rfl, xa, rfl⟩ | ⟨rfl, rfl⟩
  · rcases hvb with ⟨_, xb, rfl⟩ | ⟨h, _⟩
    · go_wp2_with fail
      go_quiet ((go_at_call 8; exact Calls.quiet_of_same (num_any _ _)))
      go_wp2_with fail
      go_ret2
      refine ⟨⟨_, ?_, rfl⟩, ?_⟩
      · rw [HT.out]; exact Or.inl ⟨rfl, _, rfl⟩
      · repeat (first | exact KB2.out | refine Below.alloc ?_ (by first | omega | (simp; omega)) _ | refine below_drewN ?_ _)
    · cases h
  · rcases hvb with ⟨h, _⟩ | ⟨_, rfl⟩
    · cases h
    · go_wp2_with fail
      go_quiet ((go_at_call 8; exact Calls.quiet_of_same (num_any _ _)))
      go_wp2_with fail
      go_ret2
      refine ⟨⟨_, ?_, rfl⟩, ?_⟩
      · rw [HT.out]; exact Or.inr ⟨rfl, rfl⟩
      · repeat (first | exact KB2.out | refine Below.alloc ?_ (by first | omega | (simp; omega)) _ | refine below_drewN ?_ _)

def firstS : ByteArray := { data := #[1, 2, 3, 0, 0, 0, 5, 20, 0, 0, 0, 14, 0, 0, 0] }
def zeroS : ByteArray := { data := #[0] }
theorem first_told : (told firstS 1 2 1 1).2.2 = true := by decide +kernel
theorem zero_told : (told zeroS 1 2 1 1).2.2 = false := by decide +kernel

set_option maxRecDepth 100000 in
set_option maxHeartbeats 1000000 in
theorem loads_any (s : ByteArray) (c0 c1 c2 c3 : Int) (w : World) (hs : s.size ≤ maxLen) (hs2 : s.size ≤ 140737488355328) (hT : Tab w) :
    Calls Tryd.prog 3 #[.string s, .agg #[.int .i64 c0, .int .i64 c1, .int .i64 c2, .int .i64 c3]] w fun e w' => e = .returned (.bool true) ∧ Below w.heap.size w w' := by
  have HS : Hid (s.size ≤ maxLen) := hs
  have KT : Hid (Tab w) := hT
  clear hs hT
  go_enter Tryd.func3, Tryd.ntmps3
  go_wp2_with (go_at_call 5; go_in)
  refine (load_any firstS 1 2 1 1 _ (by decide) (by decide) (KT.out.alloc _)).mono ?_
  rintro e w1 ⟨⟨v1, hv1, rfl⟩, hB1⟩
  rw [first_told] at hv1
  have KB1 : Hid (Below w.heap.size w w1) := ((Below.refl _ _).alloc (Nat.le_refl _) _).trans (hB1.mono (by simp))
  obtain ⟨x1, rfl⟩ : ∃ x1, v1 = .pointer (some x1) := by
    rcases hv1 with ⟨_, h⟩ | ⟨h, _⟩
    · exact h
    · cases h
  clear hv1
  obtain ⟨hc, hf⟩ := bcell hB1
  have hz := hB1.size
  simp at hz
  have a0 : w1.cell? ⟨w.heap.size, 0, none⟩ = some (.int .i64 c0) := by rw [hc _ _ (by simp)]; simp [go_sem]
  have a1 : w1.cell? ⟨w.heap.size, 1, none⟩ = some (.int .i64 c1) := by rw [hc _ _ (by simp)]; simp [go_sem]
  have a2 : w1.cell? ⟨w.heap.size, 2, none⟩ = some (.int .i64 c2) := by rw [hc _ _ (by simp)]; simp [go_sem]
  have a3 : w1.cell? ⟨w.heap.size, 3, none⟩ = some (.int .i64 c3) := by rw [hc _ _ (by simp)]; simp [go_sem]
  have l0 : w.heap.size < w1.heap.size := by omega
  clear hc hf hB1
  go_wp2_with fail
  refine (load_any zeroS 1 2 1 1 _ (by decide) (by decide) (KT.out.below KB1.out)).mono ?_
  rintro e w2 ⟨⟨v2, hv2, rfl⟩, hB2⟩
  rw [zero_told] at hv2
  obtain rfl : v2 = .pointer none := by
    rcases hv2 with ⟨h, _⟩ | ⟨_, h⟩
    · cases h
    · exact h
  clear hv2
  have KB2 : Hid (Below w.heap.size w w2) := KB1.out.trans (hB2.mono (by omega))
  have b0 := (hB2.cell (p := ⟨w.heap.size, 0, none⟩) l0).trans a0
  have b1 := (hB2.cell (p := ⟨w.heap.size, 1, none⟩) l0).trans a1
  have b2 := (hB2.cell (p := ⟨w.heap.size, 2, none⟩) l0).trans a2
  have b3 := (hB2.cell (p := ⟨w.heap.size, 3, none⟩) l0).trans a3
  have hz2 := hB2.size
  clear hB2 a0 a1 a2 a3 KB1
  go_wp2_with fail
  refine (load_any s c0 c1 c2 c3 _ HS.out hs2 (KT.out.below KB2.out)).mono ?_
  rintro e w3 ⟨⟨v3, hv3, rfl⟩, hB3⟩
  have KB3 : Hid (Below w.heap.size w w3) := KB2.out.trans (hB3.mono (by omega))
  obtain ⟨o3, rfl⟩ : ∃ o3, v3 = .pointer o3 := by
    rcases hv3 with ⟨_, x, h⟩ | ⟨_, h⟩
    · exact ⟨_, h⟩
    · exact ⟨_, h⟩
  clear hv3 hB3 b0 b1 b2 b3 KB2
  go_wp2_with fail
  go_ret
  exact ⟨rfl, KB3.out⟩
end Go.Proofs.YtohobhbcjikhpaaDoor
