/-
  The program's 'program' answers as the plain function 'prg' says, where the variable of the operands' letters holds its table.
-/
import Derived.Test.YtheofbmdaokagaaDoorFunc
namespace Go.Proofs.YtheofbmdaokagaaDoor
open Go.RowKit

def Prog2 (e : Ending) (ok : Bool) : Prop := ∃ (ad : Option Addr) (n c : Nat), e = .returned (.tuple #[.slice ad n c, .bool ok])
theorem Tryd.info96 : (Tryd.prog.info? 96).map (fun i => (i.zero, i.size, i.bytes)) = some (some (.agg #[.int .i64 0, .slice none 0 0]), 2, 32) := by kernel_rfl

set_option maxHeartbeats 400000 in
theorem program_no (b : Nat) (s : ByteArray) (f r l : Int) (w : World) (h : w.heap[b]? = some (rdA s (0 : Nat) f r l)) (ht : M.tk s 0 1 8 = false) :
    Calls Tryd.prog 14 #[.pointer (some ⟨b, 0, none⟩)] w fun e w' => Prog2 e false ∧ ∃ f' r' l', w'.heap[b]? = some (rdA s (0 : Nat) f' r' l') ∧ w.grownBy w' (some b) := by
  go_enter Tryd.func14, Tryd.ntmps14
  have H : Hid (w.heap[b]? = some (rdA s (0 : Nat) f r l)) := h
  clear h
  go_wp2_with fail
  refine (take_bad b s 0 1 8 f r l _ _ _ H.out (by omega) rfl rfl ht).mono ?_
  rintro e w1 ⟨rfl, hh, hg⟩
  have HH : Hid (w1.heap[b]? = some (rdA s (0 : Nat) f r l)) := hh
  clear hh
  go_wp2_with fail
  go_ret2
  exact ⟨⟨_, _, _, rfl⟩, f, r, l, HH.out, hg⟩

set_option maxRecDepth 100000 in
set_option maxHeartbeats 400000 in
theorem program_try (b : Nat) (s : ByteArray) (f r l : Int) (w : World) (h : w.heap[b]? = some (rdA s (0 : Nat) f r l)) (hs : s.size ≤ maxLen) (hb0 : b ≠ 0) (hT : Tab w) (ht : M.tk s 0 1 8 = true) :
    Calls Tryd.prog 14 #[.pointer (some ⟨b, 0, none⟩)] w fun e w' => Prog2 e (M.prg s).2 ∧ ∃ f' r' l', w'.heap[b]? = some (rdA s ((M.prg s).1 : Nat) f' r' l') ∧ w.grownBy w' (some b) := by
  have hb := heap_lt h
  have hs' : s.size ≤ 9223372036854775807 := by unfold maxLen at hs; omega
  have H : Hid (w.heap[b]? = some (rdA s (0 : Nat) f r l)) := h
  have HS : Hid (s.size ≤ maxLen) := hs
  have HT : Hid (M.tk s 0 1 8 = true) := ht
  have KT0 : Hid (Tab w) := hT
  obtain ⟨hp, q1, q2⟩ := M.tk_lt ht
  clear h hs ht hT
  go_enter Tryd.func14, Tryd.ntmps14
  go_wp2_with fail
  refine (take_good b s 0 1 8 f r l _ _ _ H.out HS.out rfl rfl HT.out).mono ?_
  rintro e w1 ⟨rfl, hh, hg⟩
  have HH : Hid (w1.heap[b]? = some (rdA s ((0 + 1 : Nat) : Int) f r l)) := hh
  obtain ⟨_, _, x2, _, _⟩ := rdA_cells hh
  obtain ⟨_, y2, _, _⟩ := rdA_frozen hh
  clear hh
  generalize hF : M.bt s 0 = F at *
  have HF : Hid (M.bt s 0 = F) := hF
  clear hF
  obtain ⟨i0, hi, hz0, hz1, hz2⟩ := info_parts Tryd.info96
  go_wp2_with (at_make; refine wpList_make_full _ rfl _ _ 42 rfl 0 96 i0 _ 2 Tryd.underlying42 hi hz0 hz1 _ _ _ _ F rfl rfl rfl rfl (by rw [hz2]; omega) (by unfold maxLen; omega) (Nat.zero_le _) ?_)
  intro w3 hown hg3
  have hg4 : (w1.setCell ⟨b, 2, none⟩ (.int .i64 F)).grownBy w3 (some b) := grown_of_none hg3
  have gA : w.grownBy (w1.setCell ⟨b, 2, none⟩ (.int .i64 F)) (some b) := grown_setCell hg (Or.inl rfl) _
  have KB : Hid (w3.heap[b]? = some (rdA s ((1 : Nat) : Int) F r l)) := by
    show _ = _
    rw [hg3.block b (by have := heap_lt HH.out; simpa [World.setCell] using this) (by intro e; cases e)]
    exact rdA_set2 HH.out _
  have KG : Hid (w.grownBy w3 (some b)) := grown_trans gA hg4
  have KW : Hid (Blk w3 w1.heap.size 96 (F * 2)) := Blk.owned hown
  have hng : w.heap.size ≤ w1.heap.size := hg.size
  clear hown hg3 hg4 gA HH x2 y2 hg
  generalize w1.heap.size = g at *
  have HFN : Hid (M.prg s = ((M.fns s F 1 F).1, (M.fns s F 1 F).2 && decide ((M.fns s F 1 F).1 = s.size))) := by
    show _ = _
    unfold M.prg; rw [if_pos HT.out, HF.out]
  have hbg : g ≠ b := by omega
  go_wp2_with fail
  go_loopw [23] (fun i wr => ∃ (k q : Nat) (r' l' : Int), k ≤ F ∧ q ≤ s.size ∧ i = .int .i64 k ∧ Hid (wr.heap[b]? = some (rdA s q F r' l')) ∧ Hid (w.grownBy wr (some b)) ∧ Hid (Blk wr g 96 (F * 2)) ∧ Hid (M.fns s F q (F - k) = M.fns s F 1 F)) (fun i _ => F - (intOf i).toNat)
  case atStart => exact ⟨0, 1, r, l, by omega, by omega, rfl, KB, KG, KW, rfl⟩
  case round =>
    obtain ⟨k, q, r', l', hk, hq, rfl, rB, rG, rW, rC⟩ := hrel
    clear KB KG KW
    by_cases hlt : k < F
    · go_wp2_with fail
      refine (function_any b s q F F r' l' _ rB.out HS.out hq hb0 (KT0.out.kept rG.out hb0) rfl q1 q2).mono ?_
      rintro e w4 ⟨⟨x, ad, n, c, rfl⟩, r4, l4, hh, hg4⟩
      have KW4 : Hid (Blk w4 g 96 (F * 2)) := rW.out.kept hg4 hbg
      have KB4 : Hid (w4.heap[b]? = some (rdA s ((M.fn s q F).1 : Nat) F r4 l4)) := hh
      have KG4 : Hid (w.grownBy w4 (some b)) := grown_trans rG.out hg4
      clear hh hg4 rB rG rW
      cases hok : (M.fn s q F).2
      · have HC : Hid (M.fns s F 1 F = ((M.fn s q F).1, false)) := by
          show _ = _
          rw [← rC.out, show F - k = (F - (k + 1)) + 1 by omega]
          unfold M.fns; rw [if_neg (by rw [hok]; simp)]
        clear rC hok
        simp only []
        iterate 13 (first | go_values | go_skip | go_guarded | go_step | go_upon | go_back)
        refine wpList_store_mid rfl 96 (.tmp 33) (.tmp 31) rfl g (k * 2) #[.int .i64 x, .slice ad n c] rfl rfl (KW4.out.there _ _ (by simp; omega)) (by kernel_rfl) (by simp [Value.oneCell']) ?_
        have HW5 : ∃ w5, w5 = w4.setCells g (k * 2) #[Value.int .i64 x, .slice ad n c].toList := ⟨_, rfl⟩
        obtain ⟨w5, hw5⟩ := HW5
        have KB5 : Hid (w5.heap[b]? = some (rdA s ((M.fn s q F).1 : Nat) F r4 l4)) := by show _ = _; rw [hw5, heap_setCells g b (by omega)]; exact KB4.out
        have KG5 : Hid (w.grownBy w5 (some b)) := by show World.grownBy _ _ _; rw [hw5]; exact grown_setCells g _ _ _ _ KG4.out (by omega)
        rw [← hw5]
        clear hw5 KB4 KG4 KW4
        go_wp2_with fail
        go_ret2
        refine ⟨?_, F, r4, l4, ?_, KG5.out⟩
        · rw [HFN.out, HC.out]; exact ⟨_, _, _, rfl⟩
        · rw [HFN.out, HC.out]; exact KB5.out
      · have HC : Hid (M.fns s F (M.fn s q F).1 (F - (k + 1)) = M.fns s F 1 F) := by
          show _ = _
          rw [← rC.out, show F - k = (F - (k + 1)) + 1 by omega]
          conv => rhs; unfold M.fns
          rw [if_pos hok]
        have hq2 := (M.fn_le (s := s) (p := q) (f := F) hq).2
        clear rC hok
        simp only []
        iterate 13 (first | go_values | go_skip | go_guarded | go_step | go_upon | go_back)
        refine wpList_store_mid rfl 96 (.tmp 33) (.tmp 31) rfl g (k * 2) #[.int .i64 x, .slice ad n c] rfl rfl (KW4.out.there _ _ (by simp; omega)) (by kernel_rfl) (by simp [Value.oneCell']) ?_
        have HW5 : ∃ w5, w5 = w4.setCells g (k * 2) #[Value.int .i64 x, .slice ad n c].toList := ⟨_, rfl⟩
        obtain ⟨w5, hw5⟩ := HW5
        have KB5 : Hid (w5.heap[b]? = some (rdA s ((M.fn s q F).1 : Nat) F r4 l4)) := by show _ = _; rw [hw5, heap_setCells g b (by omega)]; exact KB4.out
        have KG5 : Hid (w.grownBy w5 (some b)) := by show World.grownBy _ _ _; rw [hw5]; exact grown_setCells g _ _ _ _ KG4.out (by omega)
        have KW5 : Hid (Blk w5 g 96 (F * 2)) := by show Blk _ _ _ _; rw [hw5]; exact Blk.sets g _ _ _ KW4.out
        rw [← hw5]
        clear hw5 KB4 KG4 KW4
        generalize (M.fn s q F).1 = q' at *
        go_wp2_with fail
        go_roundw
        case rel => exact ⟨k + 1, q', r4, l4, by omega, hq2, by go_num, KB5, KG5, KW5, HC⟩
        case measure => simp [intOf]; omega
    · obtain rfl : k = F := by omega
      have HC : Hid (M.fns s k 1 k = (q, true)) := by
        show _ = _
        rw [← rC.out, Nat.sub_self]; rfl
      clear rC
      obtain ⟨x0, x1, _, _, _⟩ := rdA_cells rB.out
      by_cases he : q = s.size
      · have hb1 : ((q : Int) == (s.size : Int)) = true := by simp; omega
        have HE : Hid (q = s.size) := he
        clear he
        go_wp2_with fail
        go_quiet (fail)
        go_wp2_with fail
        go_ret2
        refine ⟨?_, k, r', l', ?_, grown_drewN rG.out _⟩
        · rw [HFN.out, HC.out, HE.out]; simp; exact ⟨_, _, _, rfl⟩
        · rw [HFN.out, HC.out]; exact rB.out
      · have hb1 : ((q : Int) == (s.size : Int)) = false := by simp; omega
        go_wp2_with fail
        go_quiet (fail)
        go_wp2_with fail
        go_ret2
        refine ⟨?_, k, r', l', ?_, grown_drewN rG.out _⟩
        · rw [HFN.out, HC.out]; simp [he]; exact ⟨_, _, _, rfl⟩
        · rw [HFN.out, HC.out]; exact rB.out

/-- The whole text. -/
theorem program_any (b : Nat) (s : ByteArray) (f r l : Int) (w : World) (h : w.heap[b]? = some (rdA s (0 : Nat) f r l)) (hs : s.size ≤ maxLen) (hb0 : b ≠ 0) (hT : Tab w) :
    Calls Tryd.prog 14 #[.pointer (some ⟨b, 0, none⟩)] w fun e w' => Prog2 e (M.prg s).2 ∧ ∃ f' r' l', w'.heap[b]? = some (rdA s ((M.prg s).1 : Nat) f' r' l') ∧ w.grownBy w' (some b) := by
  by_cases ht : M.tk s 0 1 8 = true
  · exact program_try b s f r l w h hs hb0 hT ht
  · have e : M.prg s = (0, false) := by unfold M.prg; rw [if_neg ht]
    rw [e]
    exact program_no b s f r l w h (by simpa using ht)

end Go.Proofs.YtheofbmdaokagaaDoor
