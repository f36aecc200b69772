/-
  The program's 'function' answers as the plain function 'fn' says, where the variable of the operands' letters holds its table.
-/
import Derived.Test.YtnjiinbhbjpfkaaGreatDoorGateJ
namespace Go.Proofs.YtnjiinbhbjpfkaaGreatDoor
open Go.RowKit
def codeP (s : ByteArray) (p : Nat) : Nat → Value := fun j => .int .u8 (M.bt s (p + j) : Int)
def Func2 (s : ByteArray) (p : Nat) (w w' : World) (e : Ending) (ok : Bool) : Prop := ∃ (x : Int) (ad : Option Addr) (n c : Nat), e = .returned (.tuple #[.agg #[.int .i64 x, .slice ad n c], .bool ok]) ∧
  (ok = true → x = (M.bt s p : Int) ∧ n = M.bt s (p + 1) ∧ c = n ∧ ∃ g, w.heap.size ≤ g ∧ ad = some ⟨g, 0, none⟩ ∧ Full w' g 183 (n * 4) (n * 4) (codeP s (p + 2)))
theorem Tryz.info183 : (Tryz.prog.info? 183).map (fun i => (i.zero, i.size, i.bytes)) = some (some (.agg #[.int .u8 0, .int .u8 0, .int .u8 0, .int .u8 0]), 4, 4) := by kernel_rfl
theorem two_cells {w w1 : World} {b k : Nat} {a0 a1 : Value} {T : TypeId} (h : w.heap[k]? = some (.cells #[a0, a1] T (0, 0))) (hg : w.grownBy w1 (some b)) (hk : k ≠ b) :
    k < w1.heap.size ∧ w1.cell? ⟨k, 0, none⟩ = some a0 ∧ w1.cell? ⟨k, 1, none⟩ = some a1 ∧ w1.frozen? ⟨k, 0, none⟩ = false ∧ w1.frozen? ⟨k, 1, none⟩ = false := by
  have h1 := grown_heap hg h (by intro e; injection e; omega)
  exact ⟨heap_lt h1, by simp [World.cell?, World.frozen?, h1]⟩
set_option maxRecDepth 100000 in
set_option maxHeartbeats 400000 in
theorem function_try (b : Nat) (s : ByteArray) (p F : Nat) (f r l : Int) (w : World) (h : w.heap[b]? = some (rdA s p f r l)) (hs : s.size ≤ maxLen) (hb0 : b ≠ 0) (hT : Tab w) (hf : Hid (f = F)) (h2 : 1 ≤ F) (h4 : F ≤ 8)
    (ht1 : M.tk s p 2 8 = true) (ht2 : M.tk s (p + 1) 1 200 = true) :
    Calls Tryz.prog 82 #[.pointer (some ⟨b, 0, none⟩)] w fun e w' => Func2 s p w w' e (M.fn s p F).2 ∧ ∃ r' l', w'.heap[b]? = some (rdA s ((M.fn s p F).1 : Nat) f r' l') ∧ w.grownBy w' (some b) := by
  have hb := heap_lt h
  have H : Hid (w.heap[b]? = some (rdA s p f r l)) := h
  have HS : Hid (s.size ≤ maxLen) := hs
  have HT1 : Hid (M.tk s p 2 8 = true) := ht1
  have HT2 : Hid (M.tk s (p + 1) 1 200 = true) := ht2
  obtain ⟨_, q1, q2⟩ := M.tk_lt ht1
  obtain ⟨_, q3, q4⟩ := M.tk_lt ht2
  have HTab : Hid (Tab w) := hT
  clear h hs ht1 ht2 hT
  go_enter Tryz.func82, Tryz.ntmps82
  go_wp2_with fail
  refine (take_good b s p 2 8 f r l _ _ _ (rdA_alloc H.out _) HS.out rfl rfl HT1.out).mono ?_
  rintro e w1 ⟨rfl, hh, hg⟩
  have HH : Hid (w1.heap[b]? = some (rdA s ((p + 1 : Nat) : Int) f r l)) := hh
  obtain ⟨_, _, _, x3, _⟩ := rdA_cells hh
  obtain ⟨_, _, y3, y4⟩ := rdA_frozen hh
  clear hh
  generalize hR : M.bt s p = R at *
  have HR : Hid (M.bt s p = R) := hR
  clear hR
  go_wp2_with fail
  refine (take_good b s (p + 1) 1 200 f R l _ _ _ (rdA_set3 HH.out _) HS.out rfl rfl HT2.out).mono ?_
  rintro e w2 ⟨rfl, hh, hg2⟩
  have HH2 : Hid (w2.heap[b]? = some (rdA s ((p + 1 + 1 : Nat) : Int) f R l)) := hh
  obtain ⟨_, _, _, z3, z4⟩ := rdA_cells hh
  obtain ⟨_, _, _, u4⟩ := rdA_frozen hh
  clear hh
  generalize hL : M.bt s (p + 1) = L at *
  have HL : Hid (M.bt s (p + 1) = L) := hL
  clear hL x3 y3 y4
  obtain ⟨i0, hi, hz0, hz1, hz2⟩ := info_parts Tryz.info183
  go_wp2_with (at_make; go_loud (refine wpList_make_full _ rfl _ _ 176 rfl 0 183 i0 _ 4 Tryz.underlying176 hi hz0 hz1 _ _ _ _ L rfl rfl rfl rfl (by rw [hz2]; omega) (by unfold maxLen; omega) (Nat.zero_le _) ?_))
  intro w3 hown hg3
  have hg4 : (w2.setCell ⟨b, 4, none⟩ (.int .i64 L)).grownBy w3 (some b) := grown_of_none hg3
  have gA : w.grownBy (w2.setCell ⟨b, 4, none⟩ (.int .i64 L)) (some b) := grown_setCell (grown_trans (grown_setCell (grown_trans (World.grownBy_alloc _ _ _) hg) (Or.inl rfl) _) hg2) (Or.inl rfl) _
  have gB : (w.alloc (.cells #[.int .i64 0, .slice none 0 0] 178)).grownBy w3 (some b) := grown_trans (grown_setCell (grown_trans (grown_setCell hg (Or.inl rfl) _) hg2) (Or.inl rfl) _) hg4
  have KB : Hid (w3.heap[b]? = some (rdA s ((p + 2 : Nat) : Int) f R L)) := by
    show _ = _
    rw [hg3.block b (by have := heap_lt HH2.out; simpa [World.setCell] using this) (by intro e; cases e)]
    exact rdA_set4 HH2.out _
  have KG : Hid (w.grownBy w3 (some b)) := grown_trans gA hg4
  have KR : Hid (w3.heap[w.heap.size]? = some (.cells #[.int .i64 0, .slice none 0 0] 178 (0, 0))) := grown_heap gB (heap_alloc_new w _) (by intro e; injection e; omega)
  have KT : Hid (Tab w3) := HTab.out.kept KG.out hb0
  have KW : Hid (Full w3 w2.heap.size 183 (L * 4) (0 * 4) (codeP s (p + 2))) := (Blk.owned hown).full _
  have hng : w.heap.size < w2.heap.size := by have := hg.size; have := hg2.size; simp [World.setCell] at *; omega
  have KT0 : Hid (Tab w) := HTab.out
  clear hown hg3 hg4 gA gB HH HH2 z3 z4 u4 hg hg2 HTab
  generalize w2.heap.size = g at *
  have HFN : Hid (M.fn s p F = M.code s R F L (p + 2) L) := by
    show _ = _
    unfold M.fn; rw [if_pos HT1.out, if_pos HT2.out, HR.out, HL.out]
  have hpp := (M.tk_lt HT2.out).1
  go_wp2_with fail
  go_loopw [36] (fun i wr => ∃ k q : Nat, k ≤ L ∧ q ≤ s.size ∧ i = .int .i64 k ∧ Hid (wr.heap[b]? = some (rdA s q f R L)) ∧ Hid (w.grownBy wr (some b)) ∧ Hid (wr.heap[w.heap.size]? = some (.cells #[.int .i64 0, .slice none 0 0] 178 (0, 0))) ∧ Hid (Tab wr) ∧ Hid (Full wr g 183 (L * 4) (k * 4) (codeP s (p + 2))) ∧ Hid (q = p + 2 + 4 * k) ∧ Hid (M.code s R F L q (L - k) = M.code s R F L (p + 2) L)) (fun i _ => L - (intOf i).toNat)
  case atStart => exact ⟨0, p + 2, by omega, by omega, rfl, KB, KG, KR, KT, KW, rfl, rfl⟩
  case round =>
    obtain ⟨k, q, hk, hq, rfl, rB, rG, rR, rT, rW, rQ, rC⟩ := hrel
    clear KB KG KR KT KW
    by_cases hlt : k < L
    · go_wp2_with fail
      refine (instruction_any b s q R F L f R L _ rB.out HS.out hq hb0 rT.out rfl hf rfl (by omega) h2 q2 h4).mono ?_
      rintro e w4 ⟨⟨a0, a1, a2, a3, rfl, hA⟩, hh, hg4⟩
      have HA : Hid ((M.ins s q R F L).2 = true → a0 = (M.bt s q : Int) ∧ a1 = (M.bt s (q + 1) : Int) ∧ a2 = (M.bt s (q + 2) : Int) ∧ a3 = (M.bt s (q + 3) : Int)) := hA
      clear hA
      have hbg : g ≠ b := by omega
      have hbn : w.heap.size ≠ b := by omega
      have KW4 : Hid (Full w4 g 183 (L * 4) (k * 4) (codeP s (p + 2))) := rW.out.kept hg4 hbg
      have KB4 : Hid (w4.heap[b]? = some (rdA s ((M.ins s q R F L).1 : Nat) f R L)) := hh
      have KG4 : Hid (w.grownBy w4 (some b)) := grown_trans rG.out hg4
      have KR4 : Hid (w4.heap[w.heap.size]? = some (.cells #[.int .i64 0, .slice none 0 0] 178 (0, 0))) := grown_heap hg4 rR.out (by intro e; injection e; omega)
      have KT4 : Hid (Tab w4) := rT.out.kept hg4 hb0
      clear hh hg4 rB rG rR rT rW
      cases hok : (M.ins s q R F L).2
      · have HC : Hid (M.code s R F L (p + 2) L = ((M.ins s q R F L).1, false)) := by
          show _ = _
          rw [← rC.out, show L - k = (L - (k + 1)) + 1 by omega]
          unfold M.code; rw [if_neg (by rw [hok]; simp)]
        clear rC hok
        simp only []
        iterate 13 (first | go_values | go_skip | go_guarded | go_step | go_upon | go_back)
        refine wpList_store_mid rfl 183 (.tmp 46) (.tmp 44) rfl g (k * 4) #[.int .u8 a0, .int .u8 a1, .int .u8 a2, .int .u8 a3] rfl rfl (KW4.out.blk.there _ _ (by simp; omega)) (by kernel_rfl) (by simp [Value.oneCell']) ?_
        have HW5 : ∃ w5, w5 = w4.setCells g (k * 4) #[Value.int .u8 a0, .int .u8 a1, .int .u8 a2, .int .u8 a3].toList := ⟨_, rfl⟩
        obtain ⟨w5, hw5⟩ := HW5
        have KB5 : Hid (w5.heap[b]? = some (rdA s ((M.ins s q R F L).1 : Nat) f R L)) := by show _ = _; rw [hw5, heap_setCells g b (by omega)]; exact KB4.out
        have KG5 : Hid (w.grownBy w5 (some b)) := by show World.grownBy _ _ _; rw [hw5]; exact grown_setCells g _ _ _ _ KG4.out (by omega)
        have KR5 : Hid (w5.heap[w.heap.size]? = some (.cells #[.int .i64 0, .slice none 0 0] 178 (0, 0))) := by show _ = _; rw [hw5, heap_setCells g _ (by omega)]; exact KR4.out
        have KT5 : Hid (Tab w5) := KT0.out.kept KG5.out hb0
        rw [← hw5]
        clear hw5 KB4 KG4 KR4 KW4 KT4
        obtain ⟨hz5, d0, d1, e0, e1⟩ := two_cells KR5.out (grown_refl w5 (some b)) hbn
        go_wp2_with fail
        refine bodyPost_ret (v := .tuple #[.agg #[.int .i64 0, .slice none 0 0], .bool false]) (by simp [results, Tryz.results82, go_sem, *]) rfl ⟨?_, R, L, ?_, ?_⟩
        · rw [HFN.out, HC.out]; exact ⟨_, _, _, _, rfl, fun h => by cases h⟩
        · rw [HFN.out, HC.out]
          repeat (rw [Below.heap_setCell _ _ _ _ (by simp; omega)])
          exact KB5.out
        · repeat (refine grown_setCell ?_ (Or.inr (by simp)) _)
          exact KG5.out
      · have HC : Hid (M.code s R F L (M.ins s q R F L).1 (L - (k + 1)) = M.code s R F L (p + 2) L) := by
          show _ = _
          rw [← rC.out, show L - k = (L - (k + 1)) + 1 by omega]
          conv => rhs; unfold M.code
          rw [if_pos hok]
        have hq2 := (M.ins_le (s := s) (p := q) (r := R) (f := F) (l := L) hq).2
        have HOK : Hid ((M.ins s q R F L).2 = true) := hok
        have KQ : Hid ((M.ins s q R F L).1 = p + 2 + 4 * (k + 1)) := by
          show _ = _
          have := M.ins_yes hok
          have := rQ.out
          omega
        clear rC hok
        simp only []
        iterate 13 (first | go_values | go_skip | go_guarded | go_step | go_upon | go_back)
        refine wpList_store_mid rfl 183 (.tmp 46) (.tmp 44) rfl g (k * 4) #[.int .u8 a0, .int .u8 a1, .int .u8 a2, .int .u8 a3] rfl rfl (KW4.out.blk.there _ _ (by simp; omega)) (by kernel_rfl) (by simp [Value.oneCell']) ?_
        have HW5 : ∃ w5, w5 = w4.setCells g (k * 4) #[Value.int .u8 a0, .int .u8 a1, .int .u8 a2, .int .u8 a3].toList := ⟨_, rfl⟩
        obtain ⟨w5, hw5⟩ := HW5
        have KB5 : Hid (w5.heap[b]? = some (rdA s ((M.ins s q R F L).1 : Nat) f R L)) := by show _ = _; rw [hw5, heap_setCells g b (by omega)]; exact KB4.out
        have KG5 : Hid (w.grownBy w5 (some b)) := by show World.grownBy _ _ _; rw [hw5]; exact grown_setCells g _ _ _ _ KG4.out (by omega)
        have KR5 : Hid (w5.heap[w.heap.size]? = some (.cells #[.int .i64 0, .slice none 0 0] 178 (0, 0))) := by show _ = _; rw [hw5, heap_setCells g _ (by omega)]; exact KR4.out
        have KT5 : Hid (Tab w5) := KT0.out.kept KG5.out hb0
        have KW5 : Hid (Full w5 g 183 (L * 4) ((k + 1) * 4) (codeP s (p + 2))) := by
          show Full _ _ _ _ _ _
          rw [hw5, show (k + 1) * 4 = k * 4 + 4 by omega]
          obtain ⟨rfl, rfl, rfl, rfl⟩ := HA.out HOK.out
          have hqq := rQ.out
          refine KW4.out.sets4 (by omega) _ _ _ _ ?_ ?_ ?_ ?_ <;> (unfold codeP; rw [hqq]; congr 3; omega)
        rw [← hw5]
        clear hw5 KB4 KG4 KR4 KW4 KT4 HA HOK rQ
        generalize (M.ins s q R F L).1 = q' at *
        go_wp2_with fail
        go_roundw
        case rel => exact ⟨k + 1, q', by omega, hq2, by go_num, KB5, KG5, KR5, KT5, KW5, KQ, HC⟩
        case measure => simp [intOf]; omega
    · obtain rfl : k = L := by omega
      have HC : Hid (M.code s R F k (p + 2) k = (q, true)) := by
        show _ = _
        rw [← rC.out, Nat.sub_self]; rfl
      clear rC
      obtain ⟨hz5, d0, d1, e0, e1⟩ := two_cells rR.out (grown_refl wr (some b)) (by omega)
      obtain ⟨_, _, _, x3, _⟩ := rdA_cells rB.out
      go_wp2_with fail
      refine bodyPost_ret (v := .tuple #[.agg #[.int .i64 R, .slice (some ⟨g, 0, none⟩) k k], .bool true]) (by simp [results, Tryz.results82, go_sem, *]) rfl ⟨?_, R, k, ?_, ?_⟩
      · rw [HFN.out, HC.out]
        refine ⟨_, _, _, _, rfl, fun _ => ⟨by rw [HR.out], by rw [HL.out], rfl, g, by omega, rfl, rW.out.block ?_⟩⟩
        repeat (rw [Below.heap_setCell _ _ _ _ (by simp; omega)])
      · rw [HFN.out, HC.out]
        repeat (rw [Below.heap_setCell _ _ _ _ (by simp; omega)])
        exact rB.out
      · repeat (refine grown_setCell ?_ (Or.inr (by simp)) _)
        exact rG.out
set_option maxHeartbeats 400000 in
theorem function_no1 (b : Nat) (s : ByteArray) (p : Nat) (f r l : Int) (w : World) (h : w.heap[b]? = some (rdA s p f r l)) (hp : p ≤ s.size) (ht1 : M.tk s p 2 8 = false) :
    Calls Tryz.prog 82 #[.pointer (some ⟨b, 0, none⟩)] w fun e w' => Func2 s p w w' e false ∧ ∃ r' l', w'.heap[b]? = some (rdA s p f r' l') ∧ w.grownBy w' (some b) := by
  have hb := heap_lt h
  have H : Hid (w.heap[b]? = some (rdA s p f r l)) := h
  clear h
  go_enter Tryz.func82, Tryz.ntmps82
  go_wp2_with fail
  refine (take_bad b s p 2 8 f r l _ _ _ (rdA_alloc H.out _) hp rfl rfl ht1).mono ?_
  rintro e w1 ⟨rfl, hh, hg⟩
  have HH : Hid (w1.heap[b]? = some (rdA s p f r l)) := hh
  obtain ⟨_, _, _, x3, _⟩ := rdA_cells hh
  obtain ⟨_, _, y3, y4⟩ := rdA_frozen hh
  obtain ⟨hz5, d0, d1, e0, e1⟩ := two_cells (heap_alloc_new w (.cells #[.int .i64 0, .slice none 0 0] 178)) hg (by omega)
  clear hh
  go_wp2_with fail
  refine bodyPost_ret (v := .tuple #[.agg #[.int .i64 0, .slice none 0 0], .bool false]) (by simp [results, Tryz.results82, go_sem, *]) rfl ⟨⟨_, _, _, _, rfl, fun h => by cases h⟩, 0, l, ?_, ?_⟩
  · repeat (rw [Below.heap_setCell _ _ _ _ (by simp; omega)])
    exact rdA_set3 HH.out _
  · repeat (refine grown_setCell ?_ (by first | exact Or.inl rfl | exact Or.inr (by simp)) _)
    exact grown_trans (World.grownBy_alloc _ _ _) hg
set_option maxHeartbeats 400000 in
theorem function_no2 (b : Nat) (s : ByteArray) (p : Nat) (f r l : Int) (w : World) (h : w.heap[b]? = some (rdA s p f r l)) (hs : s.size ≤ maxLen) (ht1 : M.tk s p 2 8 = true) (ht2 : M.tk s (p + 1) 1 200 = false) :
    Calls Tryz.prog 82 #[.pointer (some ⟨b, 0, none⟩)] w fun e w' => Func2 s p w w' e false ∧ ∃ r' l', w'.heap[b]? = some (rdA s ((p + 1 : Nat) : Int) f r' l') ∧ w.grownBy w' (some b) := by
  have hb := heap_lt h
  have H : Hid (w.heap[b]? = some (rdA s p f r l)) := h
  have HS : Hid (s.size ≤ maxLen) := hs
  have HT1 : Hid (M.tk s p 2 8 = true) := ht1
  have HT2 : Hid (M.tk s (p + 1) 1 200 = false) := ht2
  obtain ⟨hp, q1, q2⟩ := M.tk_lt ht1
  clear h hs ht1 ht2
  go_enter Tryz.func82, Tryz.ntmps82
  go_wp2_with fail
  refine (take_good b s p 2 8 f r l _ _ _ (rdA_alloc H.out _) HS.out rfl rfl HT1.out).mono ?_
  rintro e w1 ⟨rfl, hh, hg⟩
  have HH : Hid (w1.heap[b]? = some (rdA s ((p + 1 : Nat) : Int) f r l)) := hh
  obtain ⟨_, _, _, x3, _⟩ := rdA_cells hh
  obtain ⟨_, _, y3, y4⟩ := rdA_frozen hh
  clear hh
  generalize hR : M.bt s p = R at *
  have HR : Hid (M.bt s p = R) := hR
  clear hR
  go_wp2_with fail
  refine (take_bad b s (p + 1) 1 200 f R l _ _ _ (rdA_set3 HH.out _) (by omega) rfl rfl HT2.out).mono ?_
  rintro e w2 ⟨rfl, hh, hg2⟩
  have HH2 : Hid (w2.heap[b]? = some (rdA s ((p + 1 : Nat) : Int) f R l)) := hh
  obtain ⟨_, _, _, _, z4⟩ := rdA_cells hh
  obtain ⟨_, _, _, u4⟩ := rdA_frozen hh
  have gB : (w.alloc (.cells #[.int .i64 0, .slice none 0 0] 178)).grownBy w2 (some b) := grown_trans (grown_setCell hg (Or.inl rfl) _) hg2
  obtain ⟨hz5, d0, d1, e0, e1⟩ := two_cells (heap_alloc_new w (.cells #[.int .i64 0, .slice none 0 0] 178)) gB (by omega)
  clear hh x3 y3 y4
  go_wp2_with fail
  refine bodyPost_ret (v := .tuple #[.agg #[.int .i64 0, .slice none 0 0], .bool false]) (by simp [results, Tryz.results82, go_sem, *]) rfl ⟨⟨_, _, _, _, rfl, fun h => by cases h⟩, R, 0, ?_, ?_⟩
  · repeat (rw [Below.heap_setCell _ _ _ _ (by simp; omega)])
    exact rdA_set4 HH2.out _
  · repeat (refine grown_setCell ?_ (by first | exact Or.inl rfl | exact Or.inr (by simp)) _)
    exact grown_trans (World.grownBy_alloc _ _ _) gB
theorem rfunction_any (b : Nat) (s : ByteArray) (p F : Nat) (f r l : Int) (w : World) (h : w.heap[b]? = some (rdA s p f r l)) (hs : s.size ≤ maxLen) (hp : p ≤ s.size) (hb0 : b ≠ 0) (hT : Tab w) (hf : Hid (f = F)) (h2 : 1 ≤ F) (h4 : F ≤ 8) :
    Calls Tryz.prog 82 #[.pointer (some ⟨b, 0, none⟩)] w fun e w' => Func2 s p w w' e (M.fn s p F).2 ∧ ∃ r' l', w'.heap[b]? = some (rdA s ((M.fn s p F).1 : Nat) f r' l') ∧ w.grownBy w' (some b) := by
  by_cases ht1 : M.tk s p 2 8 = true
  · by_cases ht2 : M.tk s (p + 1) 1 200 = true
    · exact function_try b s p F f r l w h hs hb0 hT hf h2 h4 ht1 ht2
    · have e : M.fn s p F = (p + 1, false) := by unfold M.fn; rw [if_pos ht1, if_neg ht2]
      rw [e]
      exact function_no2 b s p f r l w h hs ht1 (by simpa using ht2)
  · have e : M.fn s p F = (p, false) := by unfold M.fn; rw [if_neg ht1]
    rw [e]
    exact function_no1 b s p f r l w h hp (by simpa using ht1)
def fnsP (s : ByteArray) (gs : Nat → Nat) : Nat → Value := fun j =>
  if j % 2 = 0 then .int .i64 (M.bt s (M.pos s (j / 2)) : Int) else .slice (some ⟨gs (j / 2), 0, none⟩) (M.bt s (M.pos s (j / 2) + 1)) (M.bt s (M.pos s (j / 2) + 1))
def Fns (w : World) (s : ByteArray) (z g n m : Nat) : Prop := z ≤ g ∧ ∃ gs : Nat → Nat, Full w g 178 (n * 2) (m * 2) (fnsP s gs) ∧
  ∀ k, k < m → g < gs k ∧ 2 ≤ M.bt s (M.pos s k) ∧ M.bt s (M.pos s k) ≤ 8 ∧ 1 ≤ M.bt s (M.pos s k + 1) ∧ M.bt s (M.pos s k + 1) ≤ 200 ∧ Full w (gs k) 183 (M.bt s (M.pos s k + 1) * 4) (M.bt s (M.pos s k + 1) * 4) (codeP s (M.pos s k + 2))
theorem Fns.below {w w' : World} {s : ByteArray} {z g n m : Nat} (h : Fns w s z g n m) (hb : ∀ k, z ≤ k → k < w.heap.size → w'.heap[k]? = w.heap[k]?) : Fns w' s z g n m := by
  obtain ⟨h1, gs, h2, h3⟩ := h
  refine ⟨h1, gs, h2.block (hb g h1 h2.lt), fun k hk => ?_⟩
  obtain ⟨a, b, c, d, e, f⟩ := h3 k hk
  exact ⟨a, b, c, d, e, f.block (hb _ (by omega) f.lt)⟩
theorem Fns.kept {w w' : World} {s : ByteArray} {z g n m b : Nat} (h : Fns w s z g n m) (hg : w.grownBy w' (some b)) (hb : b < z) : Fns w' s z g n m :=
  h.below (fun k hk hk2 => hg.block k hk2 (by intro e; injection e; omega))
theorem Fns.start {w : World} {s : ByteArray} {z g n : Nat} (hz : z ≤ g) (h : Blk w g 178 (n * 2)) : Fns w s z g n 0 :=
  ⟨hz, fun _ => 0, h.full _, fun k hk => absurd hk (Nat.not_lt_zero k)⟩
theorem Fns.blk {w : World} {s : ByteArray} {z g n m : Nat} (h : Fns w s z g n m) : Blk w g 178 (n * 2) := by obtain ⟨_, _, h, _⟩ := h; exact h.blk
theorem Fns.more {w : World} {s : ByteArray} {z g n m g' : Nat} (h : Fns w s z g n m) (hm : m < n) (hg : g < g')
    (h1 : 2 ≤ M.bt s (M.pos s m) ∧ M.bt s (M.pos s m) ≤ 8 ∧ 1 ≤ M.bt s (M.pos s m + 1) ∧ M.bt s (M.pos s m + 1) ≤ 200)
    (hf : Full w g' 183 (M.bt s (M.pos s m + 1) * 4) (M.bt s (M.pos s m + 1) * 4) (codeP s (M.pos s m + 2))) :
    Fns (w.setCells g (m * 2) [.int .i64 (M.bt s (M.pos s m) : Int), .slice (some ⟨g', 0, none⟩) (M.bt s (M.pos s m + 1)) (M.bt s (M.pos s m + 1))]) s z g n (m + 1) := by
  obtain ⟨h0, gs, h2, h3⟩ := h
  have hfull : Full w g 178 (n * 2) (m * 2) (fnsP s (fun j => if j = m then g' else gs j)) := by
    obtain ⟨cur, c1, c2, c3⟩ := h2
    refine ⟨cur, c1, c2, fun j hj => ?_⟩
    rw [c3 j hj]
    unfold fnsP
    have : j / 2 ≠ m := by omega
    simp only [if_neg this]
  refine ⟨h0, fun j => if j = m then g' else gs j, ?_, fun k hk => ?_⟩
  · rw [show (m + 1) * 2 = m * 2 + 2 by omega]
    refine hfull.sets2 (by omega) _ _ ?_ ?_
    · unfold fnsP; rw [if_pos (by omega), show m * 2 / 2 = m by omega]
    · unfold fnsP; rw [if_neg (by omega), show (m * 2 + 1) / 2 = m by omega]; simp
  · by_cases e : k = m
    · subst e
      simp only [if_pos]
      refine ⟨hg, h1.1, h1.2.1, h1.2.2.1, h1.2.2.2, hf.block (heap_setCells g g' (by omega) _ _ _)⟩
    · simp only [if_neg e]
      obtain ⟨a, b, c, d, e', f⟩ := h3 k (by omega)
      exact ⟨a, b, c, d, e', f.block (heap_setCells g _ (by omega) _ _ _)⟩
def Prog2 (s : ByteArray) (w w' : World) (e : Ending) (ok : Bool) : Prop := ∃ (ad : Option Addr) (n c : Nat), e = .returned (.tuple #[.slice ad n c, .bool ok]) ∧
  (ok = true → n = M.bt s 0 ∧ c = n ∧ 1 ≤ n ∧ n ≤ 8 ∧ ∃ g, ad = some ⟨g, 0, none⟩ ∧ Fns w' s w.heap.size g n n)
theorem Tryz.info178 : (Tryz.prog.info? 178).map (fun i => (i.zero, i.size, i.bytes)) = some (some (.agg #[.int .i64 0, .slice none 0 0]), 2, 32) := by kernel_rfl
set_option maxHeartbeats 400000 in
theorem program_no (b : Nat) (s : ByteArray) (f r l : Int) (w : World) (h : w.heap[b]? = some (rdA s (0 : Nat) f r l)) (ht : M.tk s 0 1 8 = false) :
    Calls Tryz.prog 56 #[.pointer (some ⟨b, 0, none⟩)] w fun e w' => Prog2 s w w' e false ∧ ∃ f' r' l', w'.heap[b]? = some (rdA s (0 : Nat) f' r' l') ∧ w.grownBy w' (some b) := by
  go_enter Tryz.func56, Tryz.ntmps56
  have H : Hid (w.heap[b]? = some (rdA s (0 : Nat) f r l)) := h
  clear h
  go_wp2_with fail
  refine (take_bad b s 0 1 8 f r l _ _ _ H.out (by omega) rfl rfl ht).mono ?_
  rintro e w1 ⟨rfl, hh, hg⟩
  have HH : Hid (w1.heap[b]? = some (rdA s (0 : Nat) f r l)) := hh
  clear hh
  go_wp2_with fail
  go_ret2
  exact ⟨⟨_, _, _, rfl, fun h => by cases h⟩, f, r, l, HH.out, hg⟩
set_option maxRecDepth 100000 in
set_option maxHeartbeats 400000 in
theorem program_try (b : Nat) (s : ByteArray) (f r l : Int) (w : World) (h : w.heap[b]? = some (rdA s (0 : Nat) f r l)) (hs : s.size ≤ maxLen) (hb0 : b ≠ 0) (hT : Tab w) (ht : M.tk s 0 1 8 = true) :
    Calls Tryz.prog 56 #[.pointer (some ⟨b, 0, none⟩)] w fun e w' => Prog2 s w w' e (M.prg s).2 ∧ ∃ f' r' l', w'.heap[b]? = some (rdA s ((M.prg s).1 : Nat) f' r' l') ∧ w.grownBy w' (some b) := by
  have hb := heap_lt h
  have hs' : s.size ≤ 9223372036854775807 := by unfold maxLen at hs; omega
  have H : Hid (w.heap[b]? = some (rdA s (0 : Nat) f r l)) := h
  have HS : Hid (s.size ≤ maxLen) := hs
  have HT : Hid (M.tk s 0 1 8 = true) := ht
  have KT0 : Hid (Tab w) := hT
  obtain ⟨hp, q1, q2⟩ := M.tk_lt ht
  clear h hs ht hT
  go_enter Tryz.func56, Tryz.ntmps56
  go_wp2_with fail
  refine (take_good b s 0 1 8 f r l _ _ _ H.out HS.out rfl rfl HT.out).mono ?_
  rintro e w1 ⟨rfl, hh, hg⟩
  have HH : Hid (w1.heap[b]? = some (rdA s ((0 + 1 : Nat) : Int) f r l)) := hh
  obtain ⟨_, _, x2, _, _⟩ := rdA_cells hh
  obtain ⟨_, y2, _, _⟩ := rdA_frozen hh
  clear hh
  generalize hF : M.bt s 0 = F at *
  have HF : Hid (M.bt s 0 = F) := hF
  clear hF
  obtain ⟨i0, hi, hz0, hz1, hz2⟩ := info_parts Tryz.info178
  go_wp2_with (at_make; refine wpList_make_full _ rfl _ _ 92 rfl 0 178 i0 _ 2 Tryz.underlying92 hi hz0 hz1 _ _ _ _ F rfl rfl rfl rfl (by rw [hz2]; omega) (by unfold maxLen; omega) (Nat.zero_le _) ?_)
  intro w3 hown hg3
  have hg4 : (w1.setCell ⟨b, 2, none⟩ (.int .i64 F)).grownBy w3 (some b) := grown_of_none hg3
  have gA : w.grownBy (w1.setCell ⟨b, 2, none⟩ (.int .i64 F)) (some b) := grown_setCell hg (Or.inl rfl) _
  have KB : Hid (w3.heap[b]? = some (rdA s ((1 : Nat) : Int) F r l)) := by
    show _ = _
    rw [hg3.block b (by have := heap_lt HH.out; simpa [World.setCell] using this) (by intro e; cases e)]
    exact rdA_set2 HH.out _
  have KG : Hid (w.grownBy w3 (some b)) := grown_trans gA hg4
  have hng : w.heap.size ≤ w1.heap.size := hg.size
  have KW : Hid (Fns w3 s w.heap.size w1.heap.size F 0) := Fns.start hng (Blk.owned hown)
  clear hown hg3 hg4 gA HH x2 y2 hg
  generalize w1.heap.size = g at *
  have HFN : Hid (M.prg s = ((M.fns s F 1 F).1, (M.fns s F 1 F).2 && decide ((M.fns s F 1 F).1 = s.size))) := by
    show _ = _
    unfold M.prg; rw [if_pos HT.out, HF.out]
  have hbg : g ≠ b := by omega
  go_wp2_with fail
  go_loopw [23] (fun i wr => ∃ (k q : Nat) (r' l' : Int), k ≤ F ∧ q ≤ s.size ∧ i = .int .i64 k ∧ Hid (wr.heap[b]? = some (rdA s q F r' l')) ∧ Hid (w.grownBy wr (some b)) ∧ Hid (Fns wr s w.heap.size g F k) ∧ Hid (q = M.pos s k) ∧ Hid (M.fns s F q (F - k) = M.fns s F 1 F)) (fun i _ => F - (intOf i).toNat)
  case atStart => exact ⟨0, 1, r, l, by omega, by omega, rfl, KB, KG, KW, rfl, rfl⟩
  case round =>
    obtain ⟨k, q, r', l', hk, hq, rfl, rB, rG, rW, rQ, rC⟩ := hrel
    clear KB KG KW
    by_cases hlt : k < F
    · go_wp2_with fail
      refine (rfunction_any b s q F F r' l' _ rB.out HS.out hq hb0 (KT0.out.kept rG.out hb0) rfl q1 q2).mono ?_
      rintro e w4 ⟨⟨x, ad, n, c, rfl, hA⟩, r4, l4, hh, hg4⟩
      have hgr : g < wr.heap.size := rW.out.blk.lt
      have HA : Hid ((M.fn s q F).2 = true → x = (M.bt s q : Int) ∧ n = M.bt s (q + 1) ∧ c = n ∧ ∃ g', g < g' ∧ ad = some ⟨g', 0, none⟩ ∧ Full w4 g' 183 (n * 4) (n * 4) (codeP s (q + 2))) := fun h => by
        obtain ⟨a1, a2, a3, g', a4, a5, a6⟩ := hA h
        exact ⟨a1, a2, a3, g', by omega, a5, a6⟩
      clear hA hgr
      have KW4 : Hid (Fns w4 s w.heap.size g F k) := rW.out.kept hg4 hb
      have KB4 : Hid (w4.heap[b]? = some (rdA s ((M.fn s q F).1 : Nat) F r4 l4)) := hh
      have KG4 : Hid (w.grownBy w4 (some b)) := grown_trans rG.out hg4
      clear hh hg4 rB rG rW
      cases hok : (M.fn s q F).2
      · have HC : Hid (M.fns s F 1 F = ((M.fn s q F).1, false)) := by
          show _ = _
          rw [← rC.out, show F - k = (F - (k + 1)) + 1 by omega]
          unfold M.fns; rw [if_neg (by rw [hok]; simp)]
        clear rC hok
        simp only []
        iterate 13 (first | go_values | go_skip | go_guarded | go_step | go_upon | go_back)
        refine wpList_store_mid rfl 178 (.tmp 33) (.tmp 31) rfl g (k * 2) #[.int .i64 x, .slice ad n c] rfl rfl (KW4.out.blk.there _ _ (by simp; omega)) (by kernel_rfl) (by simp [Value.oneCell']) ?_
        have HW5 : ∃ w5, w5 = w4.setCells g (k * 2) #[Value.int .i64 x, .slice ad n c].toList := ⟨_, rfl⟩
        obtain ⟨w5, hw5⟩ := HW5
        have KB5 : Hid (w5.heap[b]? = some (rdA s ((M.fn s q F).1 : Nat) F r4 l4)) := by show _ = _; rw [hw5, heap_setCells g b (by omega)]; exact KB4.out
        have KG5 : Hid (w.grownBy w5 (some b)) := by show World.grownBy _ _ _; rw [hw5]; exact grown_setCells g _ _ _ _ KG4.out (by omega)
        rw [← hw5]
        clear hw5 KB4 KG4 KW4
        go_wp2_with fail
        go_ret2
        refine ⟨?_, F, r4, l4, ?_, KG5.out⟩
        · rw [HFN.out, HC.out]; exact ⟨_, _, _, rfl, fun h => by cases h⟩
        · rw [HFN.out, HC.out]; exact KB5.out
      · have HC : Hid (M.fns s F (M.fn s q F).1 (F - (k + 1)) = M.fns s F 1 F) := by
          show _ = _
          rw [← rC.out, show F - k = (F - (k + 1)) + 1 by omega]
          conv => rhs; unfold M.fns
          rw [if_pos hok]
        have hq2 := (M.fn_le (s := s) (p := q) (f := F) hq).2
        have HOK : Hid ((M.fn s q F).2 = true) := hok
        have KQ : Hid ((M.fn s q F).1 = M.pos s (k + 1)) := by
          show _ = _
          rw [(M.fn_yes hok).1, rQ.out, M.pos]
        clear rC hok
        simp only []
        iterate 13 (first | go_values | go_skip | go_guarded | go_step | go_upon | go_back)
        refine wpList_store_mid rfl 178 (.tmp 33) (.tmp 31) rfl g (k * 2) #[.int .i64 x, .slice ad n c] rfl rfl (KW4.out.blk.there _ _ (by simp; omega)) (by kernel_rfl) (by simp [Value.oneCell']) ?_
        have HW5 : ∃ w5, w5 = w4.setCells g (k * 2) #[Value.int .i64 x, .slice ad n c].toList := ⟨_, rfl⟩
        obtain ⟨w5, hw5⟩ := HW5
        have KB5 : Hid (w5.heap[b]? = some (rdA s ((M.fn s q F).1 : Nat) F r4 l4)) := by show _ = _; rw [hw5, heap_setCells g b (by omega)]; exact KB4.out
        have KG5 : Hid (w.grownBy w5 (some b)) := by show World.grownBy _ _ _; rw [hw5]; exact grown_setCells g _ _ _ _ KG4.out (by omega)
        have KW5 : Hid (Fns w5 s w.heap.size g F (k + 1)) := by
          show Fns _ _ _ _ _ _
          obtain ⟨a1, a2, a3, g', a4, a5, a6⟩ := HA.out HOK.out
          have hqq := rQ.out
          have hy := M.fn_yes HOK.out
          rw [hqq] at a1 a2 a6 hy
          subst a1 a3 a5
          rw [a2] at a6
          rw [hw5, a2]
          exact KW4.out.more hlt a4 hy.2 a6
        rw [← hw5]
        clear hw5 KB4 KG4 KW4 HA HOK rQ
        generalize (M.fn s q F).1 = q' at *
        go_wp2_with fail
        go_roundw
        case rel => exact ⟨k + 1, q', r4, l4, by omega, hq2, by go_num, KB5, KG5, KW5, KQ, HC⟩
        case measure => simp [intOf]; omega
    · obtain rfl : k = F := by omega
      have HC : Hid (M.fns s k 1 k = (q, true)) := by
        show _ = _
        rw [← rC.out, Nat.sub_self]; rfl
      clear rC
      obtain ⟨x0, x1, _, _, _⟩ := rdA_cells rB.out
      by_cases he : q = s.size
      · have hb1 : ((q : Int) == (s.size : Int)) = true := by simp; omega
        have HE : Hid (q = s.size) := he
        clear he
        go_wp2_with fail
        go_quiet (fail)
        go_wp2_with fail
        go_ret2
        refine ⟨?_, k, r', l', ?_, grown_drewN rG.out _⟩
        · rw [HFN.out, HC.out, HE.out]; simp; exact ⟨_, _, _, rfl, fun _ => ⟨by rw [HF.out], rfl, q1, q2, g, rfl, rW.out.below (fun _ _ _ => rfl)⟩⟩
        · rw [HFN.out, HC.out]; exact rB.out
      · have hb1 : ((q : Int) == (s.size : Int)) = false := by simp; omega
        go_wp2_with fail
        go_quiet (fail)
        go_wp2_with fail
        go_ret2
        refine ⟨?_, k, r', l', ?_, grown_drewN rG.out _⟩
        · rw [HFN.out, HC.out]; simp [he]; exact ⟨_, _, _, rfl, fun h => by cases h⟩
        · rw [HFN.out, HC.out]; exact rB.out
theorem program_any (b : Nat) (s : ByteArray) (f r l : Int) (w : World) (h : w.heap[b]? = some (rdA s (0 : Nat) f r l)) (hs : s.size ≤ maxLen) (hb0 : b ≠ 0) (hT : Tab w) :
    Calls Tryz.prog 56 #[.pointer (some ⟨b, 0, none⟩)] w fun e w' => Prog2 s w w' e (M.prg s).2 ∧ ∃ f' r' l', w'.heap[b]? = some (rdA s ((M.prg s).1 : Nat) f' r' l') ∧ w.grownBy w' (some b) := by
  by_cases ht : M.tk s 0 1 8 = true
  · exact program_try b s f r l w h hs hb0 hT ht
  · have e : M.prg s = (0, false) := by unfold M.prg; rw [if_neg ht]
    rw [e]
    exact program_no b s f r l w h (by simpa using ht)
theorem does_any (k : Nat) (c : Array Value) (w : World) : Calls Tryz.prog 105 #[Fv k c] w fun e w' => e = .returned (Fv 163 #[P0 w.heap.size]) ∧ w' = w.alloc (.cells #[Fv k c] 199) := by
  go_enter Tryz.func105, Tryz.ntmps105
  go_wp2
  go_ret
  exact ⟨rfl, rfl⟩
theorem gives_any (k : Nat) (c : Array Value) (w : World) : Calls Tryz.prog 83 #[Fv k c] w fun e w' => e = .returned (Fv 163 #[P0 (w.heap.size + 1)]) ∧ w' = (w.alloc (.cells #[Fv k c] 187)).alloc (.cells #[Fv 148 #[P0 w.heap.size]] 199) := by
  go_enter Tryz.func83, Tryz.ntmps83
  go_wp2_with fail
  refine (does_any _ _ _).mono ?_
  rintro e w1 ⟨rfl, rfl⟩
  go_wp2
  go_ret
  exact ⟨by simp, rfl⟩
theorem goesOn_any (k : Nat) (c : Array Value) (w : World) : Calls Tryz.prog 95 #[Fv k c] w fun e w' => e = .returned (Fv 163 #[P0 (w.heap.size + 1)]) ∧ w' = (w.alloc (.cells #[Fv k c] 193)).alloc (.cells #[Fv 153 #[P0 w.heap.size]] 199) := by
  go_enter Tryz.func95, Tryz.ntmps95
  go_wp2_with fail
  refine (does_any _ _ _).mono ?_
  rintro e w1 ⟨rfl, rfl⟩
  go_wp2
  go_ret
  exact ⟨by simp, rfl⟩
theorem makes_any (k : Nat) (c : Array Value) (w : World) : Calls Tryz.prog 99 #[Fv k c] w fun e w' => e = .returned (Fv 163 #[P0 (w.heap.size + 1)]) ∧ w' = (w.alloc (.cells #[Fv k c] 195)).alloc (.cells #[Fv 155 #[P0 w.heap.size]] 199) := by
  go_enter Tryz.func99, Tryz.ntmps99
  go_wp2_with fail
  refine (does_any _ _ _).mono ?_
  rintro e w1 ⟨rfl, rfl⟩
  go_wp2
  go_ret
  exact ⟨by simp, rfl⟩
theorem ofNumbers_any (k : Nat) (c : Array Value) (w : World) : Calls Tryz.prog 87 #[Fv k c] w fun e w' => e = .returned (Fv 151 #[P0 w.heap.size]) ∧ w' = w.alloc (.cells #[Fv k c] 190) := by
  go_enter Tryz.func87, Tryz.ntmps87
  go_wp2
  go_ret
  exact ⟨rfl, rfl⟩
theorem takes_any (k k2 : Nat) (c c2 : Array Value) (w : World) : Calls Tryz.prog 111 #[Fv k c, Fv k2 c2] w fun e w' => e = .returned (Fv 167 #[P0 w.heap.size, P0 (w.heap.size + 1)]) ∧ w' = (w.alloc (.cells #[Fv k c] 187)).alloc (.cells #[Fv k2 c2] 202) := by
  go_enter Tryz.func111, Tryz.ntmps111
  go_wp2
  go_ret
  exact ⟨by simp, rfl⟩
def acts (b : Nat) : Array Value := #[Fv 163 #[P0 (b + 1)], Fv 163 #[P0 (b + 3)], Fv 151 #[P0 (b + 4)], Fv 151 #[P0 (b + 5)], Fv 151 #[P0 (b + 6)], Fv 151 #[P0 (b + 7)], Fv 163 #[P0 (b + 9)], Fv 163 #[P0 (b + 11)], Fv 163 #[P0 (b + 13)], Fv 163 #[P0 (b + 15)], Fv 101 #[], Fv 102 #[], Fv 163 #[P0 (b + 17)], Fv 104 #[], Fv 163 #[P0 (b + 18)], Fv 108 #[], Fv 163 #[P0 (b + 19)], Fv 167 #[P0 (b + 20), P0 (b + 21)], Fv 167 #[P0 (b + 22), P0 (b + 23)], Fv 167 #[P0 (b + 24), P0 (b + 25)], Fv 167 #[P0 (b + 26), P0 (b + 27)], Fv 167 #[P0 (b + 28), P0 (b + 29)], Fv 163 #[P0 (b + 31)]]
def actB (b : Nat) : List (Value × TypeId) := [(Fv 84 #[], 187), (Fv 148 #[P0 b], 199), (Fv 86 #[], 187), (Fv 148 #[P0 (b + 2)], 199), (Fv 88 #[], 190), (Fv 89 #[], 190), (Fv 90 #[], 190), (Fv 91 #[], 190), (Fv 93 #[], 187), (Fv 148 #[P0 (b + 8)], 199), (Fv 96 #[], 193), (Fv 153 #[P0 (b + 10)], 199), (Fv 97 #[], 193), (Fv 153 #[P0 (b + 12)], 199), (Fv 100 #[], 195), (Fv 155 #[P0 (b + 14)], 199), (Fv 103 #[], 195), (Fv 155 #[P0 (b + 16)], 199), (Fv 106 #[], 199), (Fv 109 #[], 199), (Fv 98 #[], 187), (Fv 112 #[], 202), (Fv 86 #[], 187), (Fv 113 #[], 202), (Fv 98 #[], 187), (Fv 114 #[], 202), (Fv 98 #[], 187), (Fv 115 #[], 202), (Fv 86 #[], 187), (Fv 116 #[], 202), (Fv 117 #[], 187), (Fv 148 #[P0 (b + 30)], 199)]
section
variable (k : Nat) (c : Array Value) (b : Nat) (w w0 : World) (l : List (Value × TypeId)) (h : Hid (w = laid1 w0 l)) (hz : Hid (w.heap.size = b))
theorem laid1_two (x y : Value × TypeId) : ((laid1 w0 l).alloc (.cells #[x.1] x.2)).alloc (.cells #[y.1] y.2) = laid1 w0 (l ++ [x, y]) := by
  induction l generalizing w0 with
  | nil => rfl
  | cons z r ih => exact ih _
theorem laid1_one (x : Value × TypeId) : (laid1 w0 l).alloc (.cells #[x.1] x.2) = laid1 w0 (l ++ [x]) := by
  induction l generalizing w0 with
  | nil => rfl
  | cons z r ih => exact ih _
include h hz
theorem gives_l : Calls Tryz.prog 83 #[Fv k c] w fun e w' => e = .returned (Fv 163 #[P0 (b + 1)]) ∧ Hid (w' = laid1 w0 (l ++ [(Fv k c, 187), (Fv 148 #[P0 b], 199)])) ∧ Hid (w'.heap.size = b + 2) := by
  refine (gives_any k c w).mono ?_
  rintro e w' ⟨rfl, rfl⟩
  have hz' := hz.out
  subst hz'
  refine ⟨rfl, ?_, ?_⟩
  · show _ = _; rw [← laid1_two, ← h.out]
  · show _ = _; simp
theorem goesOn_l : Calls Tryz.prog 95 #[Fv k c] w fun e w' => e = .returned (Fv 163 #[P0 (b + 1)]) ∧ Hid (w' = laid1 w0 (l ++ [(Fv k c, 193), (Fv 153 #[P0 b], 199)])) ∧ Hid (w'.heap.size = b + 2) := by
  refine (goesOn_any k c w).mono ?_
  rintro e w' ⟨rfl, rfl⟩
  have hz' := hz.out
  subst hz'
  refine ⟨rfl, ?_, ?_⟩
  · show _ = _; rw [← laid1_two, ← h.out]
  · show _ = _; simp
theorem makes_l : Calls Tryz.prog 99 #[Fv k c] w fun e w' => e = .returned (Fv 163 #[P0 (b + 1)]) ∧ Hid (w' = laid1 w0 (l ++ [(Fv k c, 195), (Fv 155 #[P0 b], 199)])) ∧ Hid (w'.heap.size = b + 2) := by
  refine (makes_any k c w).mono ?_
  rintro e w' ⟨rfl, rfl⟩
  have hz' := hz.out
  subst hz'
  refine ⟨rfl, ?_, ?_⟩
  · show _ = _; rw [← laid1_two, ← h.out]
  · show _ = _; simp
theorem ofNumbers_l : Calls Tryz.prog 87 #[Fv k c] w fun e w' => e = .returned (Fv 151 #[P0 b]) ∧ Hid (w' = laid1 w0 (l ++ [(Fv k c, 190)])) ∧ Hid (w'.heap.size = b + 1) := by
  refine (ofNumbers_any k c w).mono ?_
  rintro e w' ⟨rfl, rfl⟩
  have hz' := hz.out
  subst hz'
  refine ⟨rfl, ?_, ?_⟩
  · show _ = _; rw [← laid1_one, ← h.out]
  · show _ = _; simp
theorem does_l : Calls Tryz.prog 105 #[Fv k c] w fun e w' => e = .returned (Fv 163 #[P0 b]) ∧ Hid (w' = laid1 w0 (l ++ [(Fv k c, 199)])) ∧ Hid (w'.heap.size = b + 1) := by
  refine (does_any k c w).mono ?_
  rintro e w' ⟨rfl, rfl⟩
  have hz' := hz.out
  subst hz'
  refine ⟨rfl, ?_, ?_⟩
  · show _ = _; rw [← laid1_one, ← h.out]
  · show _ = _; simp
theorem takes_l (k2 : Nat) (c2 : Array Value) : Calls Tryz.prog 111 #[Fv k c, Fv k2 c2] w fun e w' => e = .returned (Fv 167 #[P0 b, P0 (b + 1)]) ∧ Hid (w' = laid1 w0 (l ++ [(Fv k c, 187), (Fv k2 c2, 202)])) ∧ Hid (w'.heap.size = b + 2) := by
  refine (takes_any k k2 c c2 w).mono ?_
  rintro e w' ⟨rfl, rfl⟩
  have hz' := hz.out
  subst hz'
  refine ⟨rfl, ?_, ?_⟩
  · show _ = _; rw [← laid1_two, ← h.out]
  · show _ = _; simp
end
set_option maxRecDepth 100000 in
set_option maxHeartbeats 8000000 in
theorem actions_any (w : World) : Calls Tryz.prog 57 #[] w fun e w' => e = .returned (.agg (acts (w.heap.size + 1))) ∧ ∃ w1, Hid (w1 = laid1 (w.alloc (.cells (Array.replicate 23 Value.nilFunc) 133)) (actB (w.heap.size + 1))) ∧ w' = w1.setCells w.heap.size 0 (acts (w.heap.size + 1)).toList := by
  go_enter Tryz.func57, Tryz.ntmps57
  go_wp2_with fail
  have hq0 : Hid (w.alloc (.cells (Array.replicate 23 Value.nilFunc) 133) = laid1 (w.alloc (.cells (Array.replicate 23 Value.nilFunc) 133)) []) := rfl
  have hs0 : Hid ((w.alloc (.cells (Array.replicate 23 Value.nilFunc) 133)).heap.size = w.heap.size + 1) := by show _ = _; simp
  refine (gives_l 84 #[] _ _ _ _ hq0 hs0).mono ?_
  rintro e w1 ⟨rfl, hq1, hs1⟩
  clear hq0 hs0
  go_wp2_with fail
  refine (gives_l 86 #[] _ _ _ _ hq1 hs1).mono ?_
  rintro e w2 ⟨rfl, hq2, hs2⟩
  clear hq1 hs1
  go_wp2_with fail
  refine (ofNumbers_l 88 #[] _ _ _ _ hq2 hs2).mono ?_
  rintro e w3 ⟨rfl, hq3, hs3⟩
  clear hq2 hs2
  go_wp2_with fail
  refine (ofNumbers_l 89 #[] _ _ _ _ hq3 hs3).mono ?_
  rintro e w4 ⟨rfl, hq4, hs4⟩
  clear hq3 hs3
  go_wp2_with fail
  refine (ofNumbers_l 90 #[] _ _ _ _ hq4 hs4).mono ?_
  rintro e w5 ⟨rfl, hq5, hs5⟩
  clear hq4 hs4
  go_wp2_with fail
  refine (ofNumbers_l 91 #[] _ _ _ _ hq5 hs5).mono ?_
  rintro e w6 ⟨rfl, hq6, hs6⟩
  clear hq5 hs5
  go_wp2_with fail
  refine (gives_l 93 #[] _ _ _ _ hq6 hs6).mono ?_
  rintro e w7 ⟨rfl, hq7, hs7⟩
  clear hq6 hs6
  go_wp2_with fail
  refine (goesOn_l 96 #[] _ _ _ _ hq7 hs7).mono ?_
  rintro e w8 ⟨rfl, hq8, hs8⟩
  clear hq7 hs7
  go_wp2_with fail
  refine (goesOn_l 97 #[] _ _ _ _ hq8 hs8).mono ?_
  rintro e w9 ⟨rfl, hq9, hs9⟩
  clear hq8 hs8
  go_wp2_with fail
  refine (makes_l 100 #[] _ _ _ _ hq9 hs9).mono ?_
  rintro e w10 ⟨rfl, hq10, hs10⟩
  clear hq9 hs9
  go_wp2_with fail
  refine (makes_l 103 #[] _ _ _ _ hq10 hs10).mono ?_
  rintro e w11 ⟨rfl, hq11, hs11⟩
  clear hq10 hs10
  go_wp2_with fail
  refine (does_l 106 #[] _ _ _ _ hq11 hs11).mono ?_
  rintro e w12 ⟨rfl, hq12, hs12⟩
  clear hq11 hs11
  go_wp2_with fail
  refine (does_l 109 #[] _ _ _ _ hq12 hs12).mono ?_
  rintro e w13 ⟨rfl, hq13, hs13⟩
  clear hq12 hs12
  go_wp2_with fail
  refine (takes_l 98 #[] _ _ _ _ hq13 hs13 112 #[]).mono ?_
  rintro e w14 ⟨rfl, hq14, hs14⟩
  clear hq13 hs13
  go_wp2_with fail
  refine (takes_l 86 #[] _ _ _ _ hq14 hs14 113 #[]).mono ?_
  rintro e w15 ⟨rfl, hq15, hs15⟩
  clear hq14 hs14
  go_wp2_with fail
  refine (takes_l 98 #[] _ _ _ _ hq15 hs15 114 #[]).mono ?_
  rintro e w16 ⟨rfl, hq16, hs16⟩
  clear hq15 hs15
  go_wp2_with fail
  refine (takes_l 98 #[] _ _ _ _ hq16 hs16 115 #[]).mono ?_
  rintro e w17 ⟨rfl, hq17, hs17⟩
  clear hq16 hs16
  go_wp2_with fail
  refine (takes_l 86 #[] _ _ _ _ hq17 hs17 116 #[]).mono ?_
  rintro e w18 ⟨rfl, hq18, hs18⟩
  clear hq17 hs17
  go_wp2_with fail
  refine (gives_l 117 #[] _ _ _ _ hq18 hs18).mono ?_
  rintro e w19 ⟨rfl, hq19, hs19⟩
  clear hq18 hs18
  simp only []
  iterate 4 (first | go_values | go_skip | go_guarded | go_step | go_upon | go_back)
  have hth : w19.there w.heap.size 0 (acts (w.heap.size + 1)).size := by
    have hb := laid1_below (actB (w.heap.size + 1)) (w.alloc (.cells (Array.replicate 23 Value.nilFunc) 133))
    have hbl : w19.heap[w.heap.size]? = some (.cells (Array.replicate 23 Value.nilFunc) 133 (0, 0)) := by
      rw [hq19.out]; exact (hb.block _ (by simp)).trans (heap_alloc_new w _)
    exact Blk.there (n := 23) (T := 133) ⟨_, hbl, by simp⟩ 0 _ (by simp [acts])
  refine wpList_store_mid rfl 133 (.tmp 0) (.tmp 20) rfl w.heap.size 0 (acts (w.heap.size + 1)) rfl rfl hth (by kernel_rfl) (by simp [acts, Value.oneCell']) ?_
  have HW5 : ∃ w5, w5 = w19.setCells w.heap.size 0 (acts (w.heap.size + 1)).toList := ⟨_, rfl⟩
  obtain ⟨w5, hw5⟩ := HW5
  have hld : (loadVar 133 ⟨w.heap.size, 0, none⟩).run Tryz.prog w5 = .ok (.agg (acts (w.heap.size + 1))) w5 := by
    have := run_loadVar_mid (P := Tryz.prog) w5 w.heap.size 0 133 (acts (w.heap.size + 1)).toList _ (by rw [hw5]; exact World.rangeAt_setCells_same _ _ _ _ (by simpa using hth)) Tryz.underlying133 rfl (by kernel_rfl)
    simpa using this
  rw [← hw5]
  have HQ : Hid (w19 = laid1 (w.alloc (.cells (Array.replicate 23 Value.nilFunc) 133)) (actB (w.heap.size + 1))) := hq19
  clear hq19 hs19 hth
  go_wp2_with fail
  refine bodyPost_ret (v := .agg (acts (w.heap.size + 1))) (results_cell Tryz.results57 _ rfl hld) rfl ⟨rfl, w19, HQ, hw5⟩
theorem actions_b (b : Nat) (w : World) (hb : Hid (w.heap.size = b)) : Calls Tryz.prog 57 #[] w fun e w' => e = .returned (.agg #[Fv 163 #[P0 (b + 2)], Fv 163 #[P0 (b + 4)], Fv 151 #[P0 (b + 5)], Fv 151 #[P0 (b + 6)], Fv 151 #[P0 (b + 7)], Fv 151 #[P0 (b + 8)], Fv 163 #[P0 (b + 10)], Fv 163 #[P0 (b + 12)], Fv 163 #[P0 (b + 14)], Fv 163 #[P0 (b + 16)], Fv 101 #[], Fv 102 #[], Fv 163 #[P0 (b + 18)], Fv 104 #[], Fv 163 #[P0 (b + 19)], Fv 108 #[], Fv 163 #[P0 (b + 20)], Fv 167 #[P0 (b + 21), P0 (b + 22)], Fv 167 #[P0 (b + 23), P0 (b + 24)], Fv 167 #[P0 (b + 25), P0 (b + 26)], Fv 167 #[P0 (b + 27), P0 (b + 28)], Fv 167 #[P0 (b + 29), P0 (b + 30)], Fv 163 #[P0 (b + 32)]]) ∧ Below w.heap.size w w' ∧ w'.heap.size = b + 33 ∧ ∀ k x, (actB (b + 1))[k]? = some x → w'.heap[b + 1 + k]? = some (.cells #[x.1] x.2 (0, 0)) := by
  refine (actions_any w).mono ?_
  rintro e w' ⟨rfl, w1, h1, rfl⟩
  have hb' := hb.out
  subst hb'
  have hl := laid1_below (actB (w.heap.size + 1)) (w.alloc (.cells (Array.replicate 23 Value.nilFunc) 133))
  have hz := laid1_size (actB (w.heap.size + 1)) (w.alloc (.cells (Array.replicate 23 Value.nilFunc) 133))
  rw [← h1.out] at hl hz
  have hz' : w1.heap.size = w.heap.size + 33 := by rw [hz]; simp [actB]
  refine ⟨rfl, ?_, ?_, ?_⟩
  · have : w.grownBy (w1.setCells w.heap.size 0 (acts (w.heap.size + 1)).toList) none := grown_setCells _ _ _ _ _ (grown_trans (World.grownBy_alloc _ _ _) ⟨hl.os, hl.tape, hl.output, hl.size, fun k hk _ => hl.block k hk⟩) (Nat.le_refl _)
    exact ⟨this.os, this.tape, this.output, this.size, fun k hk => this.block k hk (by intro e; cases e)⟩
  · rw [← hz']; exact setCells_size _ _ _ _
  · intro k x hx
    rw [heap_setCells _ _ (by omega), h1.out]
    have := laid1_at (actB (w.heap.size + 1)) (w.alloc (.cells (Array.replicate 23 Value.nilFunc) 133)) k x hx
    simpa using this
end Go.Proofs.YtnjiinbhbjpfkaaGreatDoor
namespace Go.Proofs.YtnjiinbhbjpfkaaGreatDoor.F
open Go.RowKit
def Fix (p : Prm) (w : World) : Prop := ∀ b, p.fx b → w.heap[b]? = p.fc b
structure PW (p : Prm) : Prop where
  n1 : 1 ≤ p.n
  n2 : p.n ≤ 200
  e0 : p.E0 0 = .slice (some ⟨p.gb, 0, none⟩) p.nf p.nf
  e1 : p.E0 1 = .int .i64 p.qn
  e2 : p.E0 2 = .int .i64 p.wk
  e3 : p.E0 3 = .int .i64 p.mt
  e27 : p.E0 27 = P0 p.sb
  gb : p.fx p.gb
  tab : ∀ w, Fix p w → ∀ f, f < p.nf → w.cell? ⟨p.gb, f * 2, none⟩ = some (.int .i64 (p.rg f)) ∧ w.cell? ⟨p.gb, f * 2 + 1, none⟩ = some (.slice (some ⟨p.cb f, 0, none⟩) (p.len f) (p.len f))
  rg : ∀ f, f < p.nf → 2 ≤ p.rg f ∧ p.rg f ≤ 8
  ea : ∀ o, o < 23 → p.E0 (4 + o) = (acts p.ac).getD o undef
  bx : ∀ w, Fix p w → ∀ j, j < 32 → w.cell? ⟨p.ac + j, 0, none⟩ = some ((actB p.ac).getD j (undef, 0)).1 ∧ w.heap[p.ac + j]? = some (.cells #[((actB p.ac).getD j (undef, 0)).1] ((actB p.ac).getD j (undef, 0)).2 (0, 0))
  cd : ∀ w, Fix p w → ∀ f, f < p.nf → p.cb f < w.heap.size ∧ ∀ i, i < p.len f → w.cell? ⟨p.cb f, i * 4, none⟩ = some (.int .u8 (p.ins f i).1) ∧ w.cell? ⟨p.cb f, i * 4 + 1, none⟩ = some (.int .u8 (p.ins f i).2.1) ∧ w.cell? ⟨p.cb f, i * 4 + 2, none⟩ = some (.int .u8 (p.ins f i).2.2.1) ∧ w.cell? ⟨p.cb f, i * 4 + 3, none⟩ = some (.int .u8 (p.ins f i).2.2.2)
  le : ∀ f, f < p.nf → p.len f ≤ 200
theorem Rep.fix {p : Prm} {s : Pl} {g : Geo} {w : World} (h : Rep p s g w) : Fix p w := fun b hb => (h.X b hb).2
theorem enterR {p : Prm} {s : Pl} {g : Geo} {w : World} {t f : Nat} {k : Fn} {ka kc : Array Value} (bk : Nat × Nat × Nat × Nat) (u v : B.V) (h : Rep p s g w) (hP : PW p) (ht : isT s t) (hlf : (s.T t).lf = none) (hf : f < p.nf) (hm : (s.T t).fr.length ≤ 1000) (hbk : .func k ka kc = bkV p g t (s.T t).fr.length bk) :
    Calls Tryz.prog 119 #[P0 p.eb, P0 (g.tb t), .int .i64 f, vA u, vA v, .func k ka kc] w fun e w' => e = .returned (.tuple #[]) ∧ ∃ fb rb r, Tr p s g w (s.push t ⟨f, 0, reg0 u v, bk⟩) (g.push t (s.T t).fr.length fb rb r) w' := by
  have hE := h.E
  obtain ⟨h1, h2⟩ := hP.tab w h.fix f hf
  have hr := h.row (x := 12) (y := t) (by unfold rowx; omega) (vld_t (by omega) ht)
  have h0 : w.cell? ⟨p.eb, 0, none⟩ = some (.slice (some ⟨p.gb, 0, none⟩) p.nf p.nf) := by
    rw [hE.cell 0 (by omega)]
    show some (p.E0 0) = _
    rw [hP.e0]
  refine (enterL p.eb (g.tb t) p.gb p.nf (p.cb f) (p.len f) (p.rg f) f (s.T t).fr.length (g.ro 12 t).2 (g.ro 12 t).1 _ k ka kc u v (tskE p s g t) w h0 h1 h2 (h.tk ht) rfl hr hm hE.lt (h.X _ hP.gb).1 hf (hP.rg f hf).1 (hP.rg f hf).2).mono ?_
  rintro e w' ⟨rfl, kb, ck', fb, rb, k1, k2, k3, k4, k5, k6, k7⟩
  refine ⟨rfl, fb, rb, (some ⟨kb, 0, none⟩, ck'), h.push (f := ⟨f, 0, reg0 u v, bk⟩) ht hlf k1 k2 ?_ k3.2.1 (k6.mono (fun k hk _ => ?_)) k4 k5 (fun k hk => ?_)⟩
  · rw [← hbk]; exact k3.1
  · rw [adB_slice] at hk; exact hk
  · have e : kb = k := by injection hk
    subst e
    rw [adB_slice] at k7; exact k7
def Pl.back (s : Pl) (t : Nat) (v : B.V) : Pl := if topN s t = 0 then (s.pop t).leave t v 2 v.2 else (s.pop t).setF t (topN s t - 1) ((frAt s t (topN s t - 1)).set (frAt s t (topN s t)).bk.2.1 v)
theorem pop_wh (s : Pl) (t u : Nat) : ((s.pop t).T u).wh = (s.T u).wh ∧ ((s.pop t).T u).lf = (s.T u).lf := by
  by_cases e : u = t
  · subst e; unfold Pl.pop; rw [setT_at]; exact ⟨rfl, rfl⟩
  · unfold Pl.pop; rw [setT_off _ _ e]; exact ⟨rfl, rfl⟩
theorem LW.pop {s : Pl} (h : LW s) (t : Nat) : LW (s.pop t) := h.same rfl rfl (fun u => (pop_wh s t u).1)
theorem WW.pop {p : Prm} {s : Pl} (h : WW p s) {t : Nat} (hw : (s.T t).wh = none) : WW p (s.pop t) := by
  intro u hu a b hab h45
  rw [(pop_wh s t u).1] at hab
  have e : u ≠ t := fun e => by rw [e, hw] at hab; cases hab
  have hT : (s.pop t).T u = s.T u := setT_off _ _ e
  have := h u hu a b hab h45
  rw [frAt_fr (s := s) (by rw [hT]), hT]
  exact this
theorem pop_len (s : Pl) (t : Nat) : ((s.pop t).T t).fr.length = (s.T t).fr.length - 1 := by unfold Pl.pop; rw [setT_at]; exact List.length_dropLast
theorem giveBackR {p : Prm} {s : Pl} {g : Geo} {w : World} {t : Nat} (v : B.V) (h : Rep p s g w) (hW : LW s) (hWW : WW p s) (ht : isT s t) (hlf : (s.T t).lf = none) (hwh : (s.T t).wh = none) (hfr : (s.T t).fr ≠ []) (hm : (s.T t).fr.length ≤ 1000) (hlv : t ∈ s.lv) (hnd : s.lv.Nodup) (hlt : ∀ u, u ∈ s.lv → isT s u) (ho : s.out.length = s.nt) (hk : s.kp.length ≤ 1000000) (hev : s.ev.length ≤ 100000)
    (hba : topN s t ≠ 0 → (frAt s t (topN s t)).bk.2.1 < p.rg (frAt s t (topN s t - 1)).f) :
    Calls Tryz.prog 107 #[P0 (g.tb t), vA v] w fun e w' => e = .returned (.tuple #[]) ∧ ∃ g', Tr p s g w (s.back t v) g' w' := by
  have hlen : (s.T t).fr.length ≠ 0 := fun e => hfr (List.length_eq_zero_iff.1 e)
  obtain ⟨m, hm1⟩ : ∃ m, (s.T t).fr.length = m + 1 := ⟨(s.T t).fr.length - 1, by omega⟩
  have htop : topN s t = m := by unfold topN; omega
  have hr := h.row (x := 12) (y := t) (by unfold rowx; omega) (vld_t (by omega) ht)
  have hF := h.fr ht (i := m) (by omega)
  obtain ⟨kb, ck, he⟩ := row_form hr (by rw [rlen_12]; exact hlen)
  have hro : g.ro 12 t = (some ⟨kb, 0, none⟩, ck) := by
    unfold sl at he
    injection he with a b c
    exact Prod.ext a c
  rw [he, rlen_12, rcon_12, hm1, List.range_succ, List.map_append, List.map_append] at hr
  have hT1 : tskE p s g t 1 = .slice (some ⟨kb, 0, none⟩) (m + 1) ck := by
    show sl s g 12 t = _
    rw [he, rlen_12, hm1]
  have hpop : ∀ w2, Pop w w2 (g.tb t) kb ck m (((List.range m).map (g.fb t)).map P0) (tskE p s g t) → Tr p s g w (s.pop t) g w2 := fun w2 hp => by
    obtain ⟨k1, k2, k3⟩ := hp
    refine h.pop ht hlf hm1 ?_ ?_ (k3.mono (fun k hk _ => ?_))
    · rw [hro]; exact k1
    · rw [hro]; exact k2
    · rw [hro]; exact hk.imp id (fun e => by rw [e]; rfl)
  unfold Pl.back
  rw [htop]
  by_cases h0 : m = 0
  · rw [if_pos h0]
    have hbk : bkV p g t m (frAt s t m).bk = Fv 120 #[P0 (g.xe t), P0 (g.xt t)] := by unfold bkV; rw [if_pos h0]
    unfold frO at hF
    rw [hbk] at hF
    refine giveBackL (g.tb t) kb ck m (g.fb t m) _ _ _ _ _ (g.xe t) (g.xt t) v _ (tskE p s g t) (fun w' => ∃ g', Tr p s g w ((s.pop t).leave t v 2 v.2) g' w') w (h.tk ht) hT1 (by omega) hr hF ?_
    intro w2 hp2
    have h2 := hpop w2 hp2
    have ht2 : isT (s.pop t) t := ht
    have he2 := h2.r.xe ht2
    have hx2 := h2.r.xt ht2
    refine begin1L p.eb (g.tb t) (g.xe t) (g.xt t) v _ w2 (by simp [World.cell?, he2]) (by simp [World.cell?, hx2]) (heap_lt he2) (heap_lt hx2) ?_
    intro w3 hg3
    refine (leaveR v 2 v.2 (h2.r.kept hg3) (hW.pop t) (hWW.pop hwh) ht2 hlv hnd hlt ho hk hev).mono ?_
    rintro e w4 ⟨rfl, g', h4⟩
    exact ⟨rfl, g', (h2.kept hg3).trans h4⟩
  · rw [if_neg h0]
    have hbk : bkV p g t m (frAt s t m).bk = .func (.func 149) #[stepV (frAt s t m).bk.1 (frAt s t m).bk.2.1 (frAt s t m).bk.2.2.1 (frAt s t m).bk.2.2.2 (g.fb t (m - 1)) (g.tb t) p.eb] #[] := by unfold bkV; rw [if_neg h0]
    unfold frO at hF
    rw [hbk] at hF
    refine giveBackS (g.tb t) kb ck m (g.fb t m) _ _ _ _ _ _ _ _ _ (g.fb t (m - 1)) p.eb v _ (tskE p s g t) (fun w' => ∃ g', Tr p s g w ((s.pop t).setF t (m - 1) ((frAt s t (m - 1)).set (frAt s t m).bk.2.1 v)) g' w') w (h.tk ht) hT1 (by omega) hr hF ?_
    intro w2 hp2
    have h2 := hpop w2 hp2
    have ht2 : isT (s.pop t) t := ht
    have hold : frAt (s.pop t) t (m - 1) = frAt s t (m - 1) := pop_old s (fun _ => by omega)
    have hb := hba (by omega)
    rw [htop] at hb
    have hcall := setR (t := t) (i := m - 1) (a := (frAt s t m).bk.2.1) (frAt s t m).bk.1 (frAt s t m).bk.2.2.1 (frAt s t m).bk.2.2.2 (g.tb t) p.eb v h2.r ht2 (by rw [pop_len]; omega) (by rw [hold]; exact hb)
    refine hcall.mono ?_
    rintro e w3 ⟨rfl, h3⟩
    rw [hold] at h3
    exact ⟨rfl, g, h2.trans h3⟩
theorem failR {p : Prm} {s : Pl} {g : Geo} {w : World} {t why : Nat} (hw : why ≤ 8) (h : Rep p s g w) (hW : LW s) (hWW : WW p s) (ht : isT s t) (hlv : t ∈ s.lv) (hnd : s.lv.Nodup) (hlt : ∀ u, u ∈ s.lv → isT s u) (ho : s.out.length = s.nt) (hk : s.kp.length ≤ 1000000) (hev : s.ev.length ≤ 100000) :
    Calls Tryz.prog 187 #[P0 p.eb, P0 (g.tb t), .int .i64 why] w fun e w' => e = .returned (.tuple #[]) ∧ ∃ g', Tr p s g w (s.leave t (0, -(why : Int)) 3 why) g' w' := by
  refine failL p.eb (g.tb t) why hw _ w (fun w1 hg1 => ?_)
  refine (leaveR (0, -(why : Int)) 3 why (h.kept hg1) hW hWW ht hlv hnd hlt ho hk hev).mono ?_
  rintro e w2 ⟨rfl, g', h2⟩
  exact ⟨rfl, g', h2.ahead hg1⟩
theorem ecancelR {p : Prm} {s : Pl} {g : Geo} {w : World} {t : Nat} (h : Rep p s g w) (hW : LW s) (hWW : WW p s) (ht : isT s t) (hlv : t ∈ s.lv) (hnd : s.lv.Nodup) (hlt : ∀ u, u ∈ s.lv → isT s u) (ho : s.out.length = s.nt) (hk : s.kp.length ≤ 1000000) (hev : s.ev.length ≤ 100000) :
    Calls Tryz.prog 172 #[P0 p.eb, P0 (g.tb t)] w fun e w' => e = .returned (.tuple #[]) ∧ ∃ g', Tr p s g w (s.leave t (0, -100) 4 0) g' w' := by
  refine ecancelL p.eb (g.tb t) _ w (fun w1 hg1 => ?_)
  refine (leaveR (0, -100) 4 0 (h.kept hg1) hW hWW ht hlv hnd hlt ho hk hev).mono ?_
  rintro e w2 ⟨rfl, g', h2⟩
  exact ⟨rfl, g', h2.ahead hg1⟩
end Go.Proofs.YtnjiinbhbjpfkaaGreatDoor.F
