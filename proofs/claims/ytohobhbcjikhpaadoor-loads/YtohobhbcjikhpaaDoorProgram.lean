/-
  The program's 'program' answers as the plain function 'prg' says, where the variable of the operands' letters holds its table.
-/
import Derived.Test.YtohobhbcjikhpaaDoorFunc
namespace Go.Proofs.YtohobhbcjikhpaaDoor
open Go.RowKit

/-- The cells of a row of functions, whose instructions lie in the blocks gs. -/
def fnsP (s : ByteArray) (gs : Nat → Nat) : Nat → Value := fun j =>
  if j % 2 = 0 then .int .i64 (M.bt s (M.pos s (j / 2)) : Int) else .slice (some ⟨gs (j / 2), 0, none⟩) (M.bt s (M.pos s (j / 2) + 1)) (M.bt s (M.pos s (j / 2) + 1))
/-- The functions of a text lie in block g, from the first on; all of it at z or behind. -/
def Fns (w : World) (s : ByteArray) (z g n m : Nat) : Prop := z ≤ g ∧ ∃ gs : Nat → Nat, Full w g 115 (n * 2) (m * 2) (fnsP s gs) ∧
  ∀ k, k < m → g < gs k ∧ 2 ≤ M.bt s (M.pos s k) ∧ M.bt s (M.pos s k) ≤ 8 ∧ 1 ≤ M.bt s (M.pos s k + 1) ∧ M.bt s (M.pos s k + 1) ≤ 200 ∧ Full w (gs k) 120 (M.bt s (M.pos s k + 1) * 4) (M.bt s (M.pos s k + 1) * 4) (codeP s (M.pos s k + 2))
theorem Fns.below {w w' : World} {s : ByteArray} {z g n m : Nat} (h : Fns w s z g n m) (hb : ∀ k, z ≤ k → k < w.heap.size → w'.heap[k]? = w.heap[k]?) : Fns w' s z g n m := by
  obtain ⟨h1, gs, h2, h3⟩ := h
  refine ⟨h1, gs, h2.block (hb g h1 h2.lt), fun k hk => ?_⟩
  obtain ⟨a, b, c, d, e, f⟩ := h3 k hk
  exact ⟨a, b, c, d, e, f.block (hb _ (by omega) f.lt)⟩
theorem Fns.kept {w w' : World} {s : ByteArray} {z g n m b : Nat} (h : Fns w s z g n m) (hg : w.grownBy w' (some b)) (hb : b < z) : Fns w' s z g n m :=
  h.below (fun k hk hk2 => hg.block k hk2 (by intro e; injection e; omega))
theorem Fns.start {w : World} {s : ByteArray} {z g n : Nat} (hz : z ≤ g) (h : Blk w g 115 (n * 2)) : Fns w s z g n 0 :=
  ⟨hz, fun _ => 0, h.full _, fun k hk => absurd hk (Nat.not_lt_zero k)⟩
theorem Fns.blk {w : World} {s : ByteArray} {z g n m : Nat} (h : Fns w s z g n m) : Blk w g 115 (n * 2) := by obtain ⟨_, _, h, _⟩ := h; exact h.blk
/-- One function more. -/
theorem Fns.more {w : World} {s : ByteArray} {z g n m g' : Nat} (h : Fns w s z g n m) (hm : m < n) (hg : g < g')
    (h1 : 2 ≤ M.bt s (M.pos s m) ∧ M.bt s (M.pos s m) ≤ 8 ∧ 1 ≤ M.bt s (M.pos s m + 1) ∧ M.bt s (M.pos s m + 1) ≤ 200)
    (hf : Full w g' 120 (M.bt s (M.pos s m + 1) * 4) (M.bt s (M.pos s m + 1) * 4) (codeP s (M.pos s m + 2))) :
    Fns (w.setCells g (m * 2) [.int .i64 (M.bt s (M.pos s m) : Int), .slice (some ⟨g', 0, none⟩) (M.bt s (M.pos s m + 1)) (M.bt s (M.pos s m + 1))]) s z g n (m + 1) := by
  obtain ⟨h0, gs, h2, h3⟩ := h
  have hfull : Full w g 115 (n * 2) (m * 2) (fnsP s (fun j => if j = m then g' else gs j)) := by
    obtain ⟨cur, c1, c2, c3⟩ := h2
    refine ⟨cur, c1, c2, fun j hj => ?_⟩
    rw [c3 j hj]
    unfold fnsP
    have : j / 2 ≠ m := by omega
    simp only [if_neg this]
  refine ⟨h0, fun j => if j = m then g' else gs j, ?_, fun k hk => ?_⟩
  · rw [show (m + 1) * 2 = m * 2 + 2 by omega]
    refine hfull.sets2 (by omega) _ _ ?_ ?_
    · unfold fnsP; rw [if_pos (by omega), show m * 2 / 2 = m by omega]
    · unfold fnsP; rw [if_neg (by omega), show (m * 2 + 1) / 2 = m by omega]; simp
  · by_cases e : k = m
    · subst e
      simp only [if_pos]
      refine ⟨hg, h1.1, h1.2.1, h1.2.2.1, h1.2.2.2, hf.block (heap_setCells g g' (by omega) _ _ _)⟩
    · simp only [if_neg e]
      obtain ⟨a, b, c, d, e', f⟩ := h3 k (by omega)
      exact ⟨a, b, c, d, e', f.block (heap_setCells g _ (by omega) _ _ _)⟩
def Prog2 (s : ByteArray) (w w' : World) (e : Ending) (ok : Bool) : Prop := ∃ (ad : Option Addr) (n c : Nat), e = .returned (.tuple #[.slice ad n c, .bool ok]) ∧
  (ok = true → n = M.bt s 0 ∧ c = n ∧ 1 ≤ n ∧ n ≤ 8 ∧ ∃ g, ad = some ⟨g, 0, none⟩ ∧ Fns w' s w.heap.size g n n)
theorem Tryd.info115 : (Tryd.prog.info? 115).map (fun i => (i.zero, i.size, i.bytes)) = some (some (.agg #[.int .i64 0, .slice none 0 0]), 2, 32) := by kernel_rfl

set_option maxHeartbeats 400000 in
theorem program_no (b : Nat) (s : ByteArray) (f r l : Int) (w : World) (h : w.heap[b]? = some (rdA s (0 : Nat) f r l)) (ht : M.tk s 0 1 8 = false) :
    Calls Tryd.prog 15 #[.pointer (some ⟨b, 0, none⟩)] w fun e w' => Prog2 s w w' e false ∧ ∃ f' r' l', w'.heap[b]? = some (rdA s (0 : Nat) f' r' l') ∧ w.grownBy w' (some b) := by
  go_enter Tryd.func15, Tryd.ntmps15
  have H : Hid (w.heap[b]? = some (rdA s (0 : Nat) f r l)) := h
  clear h
  go_wp2_with fail
  refine (take_bad b s 0 1 8 f r l _ _ _ H.out (by omega) rfl rfl ht).mono ?_
  rintro e w1 ⟨rfl, hh, hg⟩
  have HH : Hid (w1.heap[b]? = some (rdA s (0 : Nat) f r l)) := hh
  clear hh
  go_wp2_with fail
  go_ret2
  exact ⟨⟨_, _, _, rfl, fun h => by cases h⟩, f, r, l, HH.out, hg⟩

set_option maxRecDepth 100000 in
set_option maxHeartbeats 400000 in
theorem program_try (b : Nat) (s : ByteArray) (f r l : Int) (w : World) (h : w.heap[b]? = some (rdA s (0 : Nat) f r l)) (hs : s.size ≤ maxLen) (hb0 : b ≠ 0) (hT : Tab w) (ht : M.tk s 0 1 8 = true) :
    Calls Tryd.prog 15 #[.pointer (some ⟨b, 0, none⟩)] w fun e w' => Prog2 s w w' e (M.prg s).2 ∧ ∃ f' r' l', w'.heap[b]? = some (rdA s ((M.prg s).1 : Nat) f' r' l') ∧ w.grownBy w' (some b) := by
  have hb := heap_lt h
  have hs' : s.size ≤ 9223372036854775807 := by unfold maxLen at hs; omega
  have H : Hid (w.heap[b]? = some (rdA s (0 : Nat) f r l)) := h
  have HS : Hid (s.size ≤ maxLen) := hs
  have HT : Hid (M.tk s 0 1 8 = true) := ht
  have KT0 : Hid (Tab w) := hT
  obtain ⟨hp, q1, q2⟩ := M.tk_lt ht
  clear h hs ht hT
  go_enter Tryd.func15, Tryd.ntmps15
  go_wp2_with fail
  refine (take_good b s 0 1 8 f r l _ _ _ H.out HS.out rfl rfl HT.out).mono ?_
  rintro e w1 ⟨rfl, hh, hg⟩
  have HH : Hid (w1.heap[b]? = some (rdA s ((0 + 1 : Nat) : Int) f r l)) := hh
  obtain ⟨_, _, x2, _, _⟩ := rdA_cells hh
  obtain ⟨_, y2, _, _⟩ := rdA_frozen hh
  clear hh
  generalize hF : M.bt s 0 = F at *
  have HF : Hid (M.bt s 0 = F) := hF
  clear hF
  obtain ⟨i0, hi, hz0, hz1, hz2⟩ := info_parts Tryd.info115
  go_wp2_with (at_make; refine wpList_make_full _ rfl _ _ 42 rfl 0 115 i0 _ 2 Tryd.underlying42 hi hz0 hz1 _ _ _ _ F rfl rfl rfl rfl (by rw [hz2]; omega) (by unfold maxLen; omega) (Nat.zero_le _) ?_)
  intro w3 hown hg3
  have hg4 : (w1.setCell ⟨b, 2, none⟩ (.int .i64 F)).grownBy w3 (some b) := grown_of_none hg3
  have gA : w.grownBy (w1.setCell ⟨b, 2, none⟩ (.int .i64 F)) (some b) := grown_setCell hg (Or.inl rfl) _
  have KB : Hid (w3.heap[b]? = some (rdA s ((1 : Nat) : Int) F r l)) := by
    show _ = _
    rw [hg3.block b (by have := heap_lt HH.out; simpa [World.setCell] using this) (by intro e; cases e)]
    exact rdA_set2 HH.out _
  have KG : Hid (w.grownBy w3 (some b)) := grown_trans gA hg4
  have hng : w.heap.size ≤ w1.heap.size := hg.size
  have KW : Hid (Fns w3 s w.heap.size w1.heap.size F 0) := Fns.start hng (Blk.owned hown)
  clear hown hg3 hg4 gA HH x2 y2 hg
  generalize w1.heap.size = g at *
  have HFN : Hid (M.prg s = ((M.fns s F 1 F).1, (M.fns s F 1 F).2 && decide ((M.fns s F 1 F).1 = s.size))) := by
    show _ = _
    unfold M.prg; rw [if_pos HT.out, HF.out]
  have hbg : g ≠ b := by omega
  go_wp2_with fail
  go_loopw [23] (fun i wr => ∃ (k q : Nat) (r' l' : Int), k ≤ F ∧ q ≤ s.size ∧ i = .int .i64 k ∧ Hid (wr.heap[b]? = some (rdA s q F r' l')) ∧ Hid (w.grownBy wr (some b)) ∧ Hid (Fns wr s w.heap.size g F k) ∧ Hid (q = M.pos s k) ∧ Hid (M.fns s F q (F - k) = M.fns s F 1 F)) (fun i _ => F - (intOf i).toNat)
  case atStart => exact ⟨0, 1, r, l, by omega, by omega, rfl, KB, KG, KW, rfl, rfl⟩
  case round =>
    obtain ⟨k, q, r', l', hk, hq, rfl, rB, rG, rW, rQ, rC⟩ := hrel
    clear KB KG KW
    by_cases hlt : k < F
    · go_wp2_with fail
      refine (function_any b s q F F r' l' _ rB.out HS.out hq hb0 (KT0.out.kept rG.out hb0) rfl q1 q2).mono ?_
      rintro e w4 ⟨⟨x, ad, n, c, rfl, hA⟩, r4, l4, hh, hg4⟩
      have hgr : g < wr.heap.size := rW.out.blk.lt
      have HA : Hid ((M.fn s q F).2 = true → x = (M.bt s q : Int) ∧ n = M.bt s (q + 1) ∧ c = n ∧ ∃ g', g < g' ∧ ad = some ⟨g', 0, none⟩ ∧ Full w4 g' 120 (n * 4) (n * 4) (codeP s (q + 2))) := fun h => by
        obtain ⟨a1, a2, a3, g', a4, a5, a6⟩ := hA h
        exact ⟨a1, a2, a3, g', by omega, a5, a6⟩
      clear hA hgr
      have KW4 : Hid (Fns w4 s w.heap.size g F k) := rW.out.kept hg4 hb
      have KB4 : Hid (w4.heap[b]? = some (rdA s ((M.fn s q F).1 : Nat) F r4 l4)) := hh
      have KG4 : Hid (w.grownBy w4 (some b)) := grown_trans rG.out hg4
      clear hh hg4 rB rG rW
      cases hok : (M.fn s q F).2
      · have HC : Hid (M.fns s F 1 F = ((M.fn s q F).1, false)) := by
          show _ = _
          rw [← rC.out, show F - k = (F - (k + 1)) + 1 by omega]
          unfold M.fns; rw [if_neg (by rw [hok]; simp)]
        clear rC hok
        simp only []
        iterate 13 (first | go_values | go_skip | go_guarded | go_step | go_upon | go_back)
        refine wpList_store_mid rfl 115 (.tmp 33) (.tmp 31) rfl g (k * 2) #[.int .i64 x, .slice ad n c] rfl rfl (KW4.out.blk.there _ _ (by simp; omega)) (by kernel_rfl) (by simp [Value.oneCell']) ?_
        have HW5 : ∃ w5, w5 = w4.setCells g (k * 2) #[Value.int .i64 x, .slice ad n c].toList := ⟨_, rfl⟩
        obtain ⟨w5, hw5⟩ := HW5
        have KB5 : Hid (w5.heap[b]? = some (rdA s ((M.fn s q F).1 : Nat) F r4 l4)) := by show _ = _; rw [hw5, heap_setCells g b (by omega)]; exact KB4.out
        have KG5 : Hid (w.grownBy w5 (some b)) := by show World.grownBy _ _ _; rw [hw5]; exact grown_setCells g _ _ _ _ KG4.out (by omega)
        rw [← hw5]
        clear hw5 KB4 KG4 KW4
        go_wp2_with fail
        go_ret2
        refine ⟨?_, F, r4, l4, ?_, KG5.out⟩
        · rw [HFN.out, HC.out]; exact ⟨_, _, _, rfl, fun h => by cases h⟩
        · rw [HFN.out, HC.out]; exact KB5.out
      · have HC : Hid (M.fns s F (M.fn s q F).1 (F - (k + 1)) = M.fns s F 1 F) := by
          show _ = _
          rw [← rC.out, show F - k = (F - (k + 1)) + 1 by omega]
          conv => rhs; unfold M.fns
          rw [if_pos hok]
        have hq2 := (M.fn_le (s := s) (p := q) (f := F) hq).2
        have HOK : Hid ((M.fn s q F).2 = true) := hok
        have KQ : Hid ((M.fn s q F).1 = M.pos s (k + 1)) := by
          show _ = _
          rw [(M.fn_yes hok).1, rQ.out, M.pos]
        clear rC hok
        simp only []
        iterate 13 (first | go_values | go_skip | go_guarded | go_step | go_upon | go_back)
        refine wpList_store_mid rfl 115 (.tmp 33) (.tmp 31) rfl g (k * 2) #[.int .i64 x, .slice ad n c] rfl rfl (KW4.out.blk.there _ _ (by simp; omega)) (by kernel_rfl) (by simp [Value.oneCell']) ?_
        have HW5 : ∃ w5, w5 = w4.setCells g (k * 2) #[Value.int .i64 x, .slice ad n c].toList := ⟨_, rfl⟩
        obtain ⟨w5, hw5⟩ := HW5
        have KB5 : Hid (w5.heap[b]? = some (rdA s ((M.fn s q F).1 : Nat) F r4 l4)) := by show _ = _; rw [hw5, heap_setCells g b (by omega)]; exact KB4.out
        have KG5 : Hid (w.grownBy w5 (some b)) := by show World.grownBy _ _ _; rw [hw5]; exact grown_setCells g _ _ _ _ KG4.out (by omega)
        have KW5 : Hid (Fns w5 s w.heap.size g F (k + 1)) := by
          show Fns _ _ _ _ _ _
          obtain ⟨a1, a2, a3, g', a4, a5, a6⟩ := HA.out HOK.out
          have hqq := rQ.out
          have hy := M.fn_yes HOK.out
          rw [hqq] at a1 a2 a6 hy
          subst a1 a3 a5
          rw [a2] at a6
          rw [hw5, a2]
          exact KW4.out.more hlt a4 hy.2 a6
        rw [← hw5]
        clear hw5 KB4 KG4 KW4 HA HOK rQ
        generalize (M.fn s q F).1 = q' at *
        go_wp2_with fail
        go_roundw
        case rel => exact ⟨k + 1, q', r4, l4, by omega, hq2, by go_num, KB5, KG5, KW5, KQ, HC⟩
        case measure => simp [intOf]; omega
    · obtain rfl : k = F := by omega
      have HC : Hid (M.fns s k 1 k = (q, true)) := by
        show _ = _
        rw [← rC.out, Nat.sub_self]; rfl
      clear rC
      obtain ⟨x0, x1, _, _, _⟩ := rdA_cells rB.out
      by_cases he : q = s.size
      · have hb1 : ((q : Int) == (s.size : Int)) = true := by simp; omega
        have HE : Hid (q = s.size) := he
        clear he
        go_wp2_with fail
        go_quiet (fail)
        go_wp2_with fail
        go_ret2
        refine ⟨?_, k, r', l', ?_, grown_drewN rG.out _⟩
        · rw [HFN.out, HC.out, HE.out]; simp; exact ⟨_, _, _, rfl, fun _ => ⟨by rw [HF.out], rfl, q1, q2, g, rfl, rW.out.below (fun _ _ _ => rfl)⟩⟩
        · rw [HFN.out, HC.out]; exact rB.out
      · have hb1 : ((q : Int) == (s.size : Int)) = false := by simp; omega
        go_wp2_with fail
        go_quiet (fail)
        go_wp2_with fail
        go_ret2
        refine ⟨?_, k, r', l', ?_, grown_drewN rG.out _⟩
        · rw [HFN.out, HC.out]; simp [he]; exact ⟨_, _, _, rfl, fun h => by cases h⟩
        · rw [HFN.out, HC.out]; exact rB.out

/-- The whole text. -/
theorem program_any (b : Nat) (s : ByteArray) (f r l : Int) (w : World) (h : w.heap[b]? = some (rdA s (0 : Nat) f r l)) (hs : s.size ≤ maxLen) (hb0 : b ≠ 0) (hT : Tab w) :
    Calls Tryd.prog 15 #[.pointer (some ⟨b, 0, none⟩)] w fun e w' => Prog2 s w w' e (M.prg s).2 ∧ ∃ f' r' l', w'.heap[b]? = some (rdA s ((M.prg s).1 : Nat) f' r' l') ∧ w.grownBy w' (some b) := by
  by_cases ht : M.tk s 0 1 8 = true
  · exact program_try b s f r l w h hs hb0 hT ht
  · have e : M.prg s = (0, false) := by unfold M.prg; rw [if_neg ht]
    rw [e]
    exact program_no b s f r l w h (by simpa using ht)

end Go.Proofs.YtohobhbcjikhpaaDoor
