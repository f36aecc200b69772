/-
  The program's 'function' answers as the plain function 'fn' says, where the variable of the operands' letters holds its table.
-/
import Derived.Test.YtohobhbcjikhpaaDoorInstr
import Derived.Deep.MidRow
namespace Go.Proofs.YtohobhbcjikhpaaDoor
open Go.RowKit

/-- A block of n cells, which may be written; the first m of them are P's. -/
def Full (w : World) (g : Nat) (T : TypeId) (n m : Nat) (P : Nat → Value) : Prop := ∃ cur, w.heap[g]? = some (.cells cur T (0, 0)) ∧ cur.size = n ∧ ∀ j, j < m → cur[j]? = some (P j)
/-- The cells of an instruction row that begins at p in the text. -/
def codeP (s : ByteArray) (p : Nat) : Nat → Value := fun j => .int .u8 (M.bt s (p + j) : Int)
def Func2 (s : ByteArray) (p : Nat) (w w' : World) (e : Ending) (ok : Bool) : Prop := ∃ (x : Int) (ad : Option Addr) (n c : Nat), e = .returned (.tuple #[.agg #[.int .i64 x, .slice ad n c], .bool ok]) ∧
  (ok = true → x = (M.bt s p : Int) ∧ n = M.bt s (p + 1) ∧ c = n ∧ ∃ g, w.heap.size ≤ g ∧ ad = some ⟨g, 0, none⟩ ∧ Full w' g 120 (n * 4) (n * 4) (codeP s (p + 2)))
theorem Tryd.info120 : (Tryd.prog.info? 120).map (fun i => (i.zero, i.size, i.bytes)) = some (some (.agg #[.int .u8 0, .int .u8 0, .int .u8 0, .int .u8 0]), 4, 4) := by kernel_rfl

/-- A block of so many cells, which may be written. -/
def Blk (w : World) (g : Nat) (T : TypeId) (n : Nat) : Prop := ∃ cur, w.heap[g]? = some (.cells cur T (0, 0)) ∧ cur.size = n
theorem Blk.lt {w : World} {g n : Nat} {T : TypeId} (h : Blk w g T n) : g < w.heap.size := by obtain ⟨_, h, _⟩ := h; exact heap_lt h
theorem Blk.cell {w : World} {g n : Nat} {T : TypeId} (h : Blk w g T n) (j : Nat) (hj : j < n) : (∃ v, w.cell? ⟨g, j, none⟩ = some v) ∧ w.frozen? ⟨g, j, none⟩ = false := by
  obtain ⟨cur, h, hc⟩ := h
  have hj' : j < cur.size := by omega
  exact ⟨⟨cur[j], by simp [World.cell?, h, hj']⟩, by simp [World.frozen?, h]⟩
theorem Blk.set {w : World} {g n : Nat} {T : TypeId} (h : Blk w g T n) (x o : Nat) (v : Value) : Blk (w.setCell ⟨x, o, none⟩ v) g T n := by
  obtain ⟨cur, h, hc⟩ := h
  by_cases e : g = x
  · subst e
    refine ⟨cur.setIfInBounds o v, ?_, by simpa using hc⟩
    simp [World.setCell, Array.getElem?_modify, h]
  · exact ⟨cur, (Below.heap_setCell _ _ _ _ e).trans h, hc⟩
theorem Blk.kept {w w' : World} {g n b : Nat} {T : TypeId} (h : Blk w g T n) (hg : w.grownBy w' (some b)) (hb : g ≠ b) : Blk w' g T n := by
  obtain ⟨cur, h, hc⟩ := h
  exact ⟨cur, grown_heap hg h (by intro e; injection e; omega), hc⟩
theorem Blk.owned {w : World} {g n cap base size : Nat} {e : TypeId} {xs : List Value} (h : w.ownsRow base e size (.slice (some ⟨g, 0, none⟩) n cap) n xs) : Blk w g e (cap * size) := by
  rcases h.2 with ⟨h, _⟩ | ⟨g', cap', cur, h1, _, h2, _, _, h3, _⟩
  · cases h
  · cases h1; exact ⟨cur, h2, h3⟩
theorem Full.blk {w : World} {g n m : Nat} {T : TypeId} {P : Nat → Value} (h : Full w g T n m P) : Blk w g T n := by obtain ⟨cur, h, hc, _⟩ := h; exact ⟨cur, h, hc⟩
theorem Blk.full {w : World} {g n : Nat} {T : TypeId} (h : Blk w g T n) (P : Nat → Value) : Full w g T n 0 P := by obtain ⟨cur, h, hc⟩ := h; exact ⟨cur, h, hc, fun j hj => absurd hj (Nat.not_lt_zero j)⟩
theorem Full.set {w : World} {g n m : Nat} {T : TypeId} {P : Nat → Value} (h : Full w g T n m P) (hm : m < n) : Full (w.setCell ⟨g, m, none⟩ (P m)) g T n (m + 1) P := by
  obtain ⟨cur, h, hc, hj⟩ := h
  refine ⟨cur.setIfInBounds m (P m), by simp [World.setCell, Array.getElem?_modify, h], by simpa using hc, fun j hj' => ?_⟩
  rw [Array.getElem?_setIfInBounds]
  by_cases e : m = j
  · subst e; simp; omega
  · rw [if_neg e]; exact hj j (by omega)
theorem Full.block {w w' : World} {g n m : Nat} {T : TypeId} {P : Nat → Value} (h : Full w g T n m P) (hb : w'.heap[g]? = w.heap[g]?) : Full w' g T n m P := by
  obtain ⟨cur, h, r⟩ := h; exact ⟨cur, hb.trans h, r⟩
theorem Full.lt {w : World} {g n m : Nat} {T : TypeId} {P : Nat → Value} (h : Full w g T n m P) : g < w.heap.size := h.blk.lt
theorem Full.kept {w w' : World} {g n m b : Nat} {T : TypeId} {P : Nat → Value} (h : Full w g T n m P) (hg : w.grownBy w' (some b)) (hb : g ≠ b) : Full w' g T n m P :=
  h.block (hg.block g h.lt (by intro e; injection e; omega))
theorem Full.cell {w : World} {g n m : Nat} {T : TypeId} {P : Nat → Value} (h : Full w g T n m P) (j : Nat) (hj : j < m) : w.cell? ⟨g, j, none⟩ = some (P j) := by
  obtain ⟨cur, h, _, hP⟩ := h
  simp [World.cell?, h, hP j hj]
theorem Full.sets4 {w : World} {g n m : Nat} {T : TypeId} {P : Nat → Value} (h : Full w g T n m P) (hm : m + 4 ≤ n) (v0 v1 v2 v3 : Value) (e0 : v0 = P m) (e1 : v1 = P (m + 1)) (e2 : v2 = P (m + 2)) (e3 : v3 = P (m + 3)) :
    Full (w.setCells g m [v0, v1, v2, v3]) g T n (m + 4) P := by
  subst e0 e1 e2 e3
  exact (((h.set (by omega)).set (by omega)).set (by omega)).set (by omega)
theorem Full.sets2 {w : World} {g n m : Nat} {T : TypeId} {P : Nat → Value} (h : Full w g T n m P) (hm : m + 2 ≤ n) (v0 v1 : Value) (e0 : v0 = P m) (e1 : v1 = P (m + 1)) :
    Full (w.setCells g m [v0, v1]) g T n (m + 2) P := by
  subst e0 e1
  exact (h.set (by omega)).set (by omega)
theorem grown_of_none {w w' : World} {row : Option Nat} (h : w.grownBy w' none) : w.grownBy w' row := ⟨h.os, h.tape, h.output, h.size, fun k hk _ => h.block k hk (by intro e; cases e)⟩

theorem Blk.there {w : World} {g n : Nat} {T : TypeId} (h : Blk w g T n) (o m : Nat) (hm : o + m ≤ n) : w.there g o m := fun j hj => by
  obtain ⟨⟨v, h1⟩, h2⟩ := h.cell (o + j) (by omega)
  exact ⟨by rw [h1]; rfl, h2⟩
theorem Blk.sets {g n : Nat} {T : TypeId} (x : Nat) : ∀ (vs : List Value) (o : Nat) (w : World), Blk w g T n → Blk (w.setCells x o vs) g T n
  | [], _, _, h => h
  | v :: r, o, w, h => Blk.sets x r (o + 1) (w.setCell ⟨x, o, none⟩ v) (h.set x o v)
theorem heap_setCells (x k : Nat) (hk : k ≠ x) : ∀ (vs : List Value) (o : Nat) (w : World), (w.setCells x o vs).heap[k]? = w.heap[k]?
  | [], _, _ => rfl
  | v :: r, o, w => by rw [World.setCells, heap_setCells x k hk r]; exact Below.heap_setCell _ _ _ _ hk
/-- A store into a block that was not there. -/
theorem grown_setCells {row : Option Nat} (g : Nat) : ∀ (vs : List Value) (o : Nat) (w w1 : World), w.grownBy w1 row → w.heap.size ≤ g → w.grownBy (w1.setCells g o vs) row
  | [], _, _, _, h, _ => h
  | v :: r, o, w, w1, h, hg => grown_setCells g r (o + 1) w (w1.setCell ⟨g, o, none⟩ v) (grown_setCell h (Or.inr hg) v) hg

/-- A new block of two cells, behind a call that wrote into another. -/
theorem two_cells {w w1 : World} {b k : Nat} {a0 a1 : Value} {T : TypeId} (h : w.heap[k]? = some (.cells #[a0, a1] T (0, 0))) (hg : w.grownBy w1 (some b)) (hk : k ≠ b) :
    k < w1.heap.size ∧ w1.cell? ⟨k, 0, none⟩ = some a0 ∧ w1.cell? ⟨k, 1, none⟩ = some a1 ∧ w1.frozen? ⟨k, 0, none⟩ = false ∧ w1.frozen? ⟨k, 1, none⟩ = false := by
  have h1 := grown_heap hg h (by intro e; injection e; omega)
  exact ⟨heap_lt h1, by simp [World.cell?, World.frozen?, h1]⟩

set_option maxRecDepth 100000 in
set_option maxHeartbeats 400000 in
theorem function_try (b : Nat) (s : ByteArray) (p F : Nat) (f r l : Int) (w : World) (h : w.heap[b]? = some (rdA s p f r l)) (hs : s.size ≤ maxLen) (hb0 : b ≠ 0) (hT : Tab w) (hf : Hid (f = F)) (h2 : 1 ≤ F) (h4 : F ≤ 8)
    (ht1 : M.tk s p 2 8 = true) (ht2 : M.tk s (p + 1) 1 200 = true) :
    Calls Tryd.prog 25 #[.pointer (some ⟨b, 0, none⟩)] w fun e w' => Func2 s p w w' e (M.fn s p F).2 ∧ ∃ r' l', w'.heap[b]? = some (rdA s ((M.fn s p F).1 : Nat) f r' l') ∧ w.grownBy w' (some b) := by
  have hb := heap_lt h
  have H : Hid (w.heap[b]? = some (rdA s p f r l)) := h
  have HS : Hid (s.size ≤ maxLen) := hs
  have HT1 : Hid (M.tk s p 2 8 = true) := ht1
  have HT2 : Hid (M.tk s (p + 1) 1 200 = true) := ht2
  obtain ⟨_, q1, q2⟩ := M.tk_lt ht1
  obtain ⟨_, q3, q4⟩ := M.tk_lt ht2
  have HTab : Hid (Tab w) := hT
  clear h hs ht1 ht2 hT
  go_enter Tryd.func25, Tryd.ntmps25
  go_wp2_with fail
  refine (take_good b s p 2 8 f r l _ _ _ (rdA_alloc H.out _) HS.out rfl rfl HT1.out).mono ?_
  rintro e w1 ⟨rfl, hh, hg⟩
  have HH : Hid (w1.heap[b]? = some (rdA s ((p + 1 : Nat) : Int) f r l)) := hh
  obtain ⟨_, _, _, x3, _⟩ := rdA_cells hh
  obtain ⟨_, _, y3, y4⟩ := rdA_frozen hh
  clear hh
  generalize hR : M.bt s p = R at *
  have HR : Hid (M.bt s p = R) := hR
  clear hR
  go_wp2_with fail
  refine (take_good b s (p + 1) 1 200 f R l _ _ _ (rdA_set3 HH.out _) HS.out rfl rfl HT2.out).mono ?_
  rintro e w2 ⟨rfl, hh, hg2⟩
  have HH2 : Hid (w2.heap[b]? = some (rdA s ((p + 1 + 1 : Nat) : Int) f R l)) := hh
  obtain ⟨_, _, _, z3, z4⟩ := rdA_cells hh
  obtain ⟨_, _, _, u4⟩ := rdA_frozen hh
  clear hh
  generalize hL : M.bt s (p + 1) = L at *
  have HL : Hid (M.bt s (p + 1) = L) := hL
  clear hL x3 y3 y4
  obtain ⟨i0, hi, hz0, hz1, hz2⟩ := info_parts Tryd.info120
  go_wp2_with (at_make; go_loud (refine wpList_make_full _ rfl _ _ 113 rfl 0 120 i0 _ 4 Tryd.underlying113 hi hz0 hz1 _ _ _ _ L rfl rfl rfl rfl (by rw [hz2]; omega) (by unfold maxLen; omega) (Nat.zero_le _) ?_))
  intro w3 hown hg3
  have hg4 : (w2.setCell ⟨b, 4, none⟩ (.int .i64 L)).grownBy w3 (some b) := grown_of_none hg3
  have gA : w.grownBy (w2.setCell ⟨b, 4, none⟩ (.int .i64 L)) (some b) := grown_setCell (grown_trans (grown_setCell (grown_trans (World.grownBy_alloc _ _ _) hg) (Or.inl rfl) _) hg2) (Or.inl rfl) _
  have gB : (w.alloc (.cells #[.int .i64 0, .slice none 0 0] 115)).grownBy w3 (some b) := grown_trans (grown_setCell (grown_trans (grown_setCell hg (Or.inl rfl) _) hg2) (Or.inl rfl) _) hg4
  have KB : Hid (w3.heap[b]? = some (rdA s ((p + 2 : Nat) : Int) f R L)) := by
    show _ = _
    rw [hg3.block b (by have := heap_lt HH2.out; simpa [World.setCell] using this) (by intro e; cases e)]
    exact rdA_set4 HH2.out _
  have KG : Hid (w.grownBy w3 (some b)) := grown_trans gA hg4
  have KR : Hid (w3.heap[w.heap.size]? = some (.cells #[.int .i64 0, .slice none 0 0] 115 (0, 0))) := grown_heap gB (heap_alloc_new w _) (by intro e; injection e; omega)
  have KT : Hid (Tab w3) := HTab.out.kept KG.out hb0
  have KW : Hid (Full w3 w2.heap.size 120 (L * 4) (0 * 4) (codeP s (p + 2))) := (Blk.owned hown).full _
  have hng : w.heap.size < w2.heap.size := by have := hg.size; have := hg2.size; simp [World.setCell] at *; omega
  have KT0 : Hid (Tab w) := HTab.out
  clear hown hg3 hg4 gA gB HH HH2 z3 z4 u4 hg hg2 HTab
  generalize w2.heap.size = g at *
  have HFN : Hid (M.fn s p F = M.code s R F L (p + 2) L) := by
    show _ = _
    unfold M.fn; rw [if_pos HT1.out, if_pos HT2.out, HR.out, HL.out]
  have hpp := (M.tk_lt HT2.out).1
  go_wp2_with fail
  go_loopw [36] (fun i wr => ∃ k q : Nat, k ≤ L ∧ q ≤ s.size ∧ i = .int .i64 k ∧ Hid (wr.heap[b]? = some (rdA s q f R L)) ∧ Hid (w.grownBy wr (some b)) ∧ Hid (wr.heap[w.heap.size]? = some (.cells #[.int .i64 0, .slice none 0 0] 115 (0, 0))) ∧ Hid (Tab wr) ∧ Hid (Full wr g 120 (L * 4) (k * 4) (codeP s (p + 2))) ∧ Hid (q = p + 2 + 4 * k) ∧ Hid (M.code s R F L q (L - k) = M.code s R F L (p + 2) L)) (fun i _ => L - (intOf i).toNat)
  case atStart => exact ⟨0, p + 2, by omega, by omega, rfl, KB, KG, KR, KT, KW, rfl, rfl⟩
  case round =>
    obtain ⟨k, q, hk, hq, rfl, rB, rG, rR, rT, rW, rQ, rC⟩ := hrel
    clear KB KG KR KT KW
    by_cases hlt : k < L
    · go_wp2_with fail
      refine (instruction_any b s q R F L f R L _ rB.out HS.out hq hb0 rT.out rfl hf rfl (by omega) h2 q2 h4).mono ?_
      rintro e w4 ⟨⟨a0, a1, a2, a3, rfl, hA⟩, hh, hg4⟩
      have HA : Hid ((M.ins s q R F L).2 = true → a0 = (M.bt s q : Int) ∧ a1 = (M.bt s (q + 1) : Int) ∧ a2 = (M.bt s (q + 2) : Int) ∧ a3 = (M.bt s (q + 3) : Int)) := hA
      clear hA
      have hbg : g ≠ b := by omega
      have hbn : w.heap.size ≠ b := by omega
      have KW4 : Hid (Full w4 g 120 (L * 4) (k * 4) (codeP s (p + 2))) := rW.out.kept hg4 hbg
      have KB4 : Hid (w4.heap[b]? = some (rdA s ((M.ins s q R F L).1 : Nat) f R L)) := hh
      have KG4 : Hid (w.grownBy w4 (some b)) := grown_trans rG.out hg4
      have KR4 : Hid (w4.heap[w.heap.size]? = some (.cells #[.int .i64 0, .slice none 0 0] 115 (0, 0))) := grown_heap hg4 rR.out (by intro e; injection e; omega)
      have KT4 : Hid (Tab w4) := rT.out.kept hg4 hb0
      clear hh hg4 rB rG rR rT rW
      cases hok : (M.ins s q R F L).2
      · have HC : Hid (M.code s R F L (p + 2) L = ((M.ins s q R F L).1, false)) := by
          show _ = _
          rw [← rC.out, show L - k = (L - (k + 1)) + 1 by omega]
          unfold M.code; rw [if_neg (by rw [hok]; simp)]
        clear rC hok
        simp only []
        iterate 13 (first | go_values | go_skip | go_guarded | go_step | go_upon | go_back)
        refine wpList_store_mid rfl 120 (.tmp 46) (.tmp 44) rfl g (k * 4) #[.int .u8 a0, .int .u8 a1, .int .u8 a2, .int .u8 a3] rfl rfl (KW4.out.blk.there _ _ (by simp; omega)) (by kernel_rfl) (by simp [Value.oneCell']) ?_
        have HW5 : ∃ w5, w5 = w4.setCells g (k * 4) #[Value.int .u8 a0, .int .u8 a1, .int .u8 a2, .int .u8 a3].toList := ⟨_, rfl⟩
        obtain ⟨w5, hw5⟩ := HW5
        have KB5 : Hid (w5.heap[b]? = some (rdA s ((M.ins s q R F L).1 : Nat) f R L)) := by show _ = _; rw [hw5, heap_setCells g b (by omega)]; exact KB4.out
        have KG5 : Hid (w.grownBy w5 (some b)) := by show World.grownBy _ _ _; rw [hw5]; exact grown_setCells g _ _ _ _ KG4.out (by omega)
        have KR5 : Hid (w5.heap[w.heap.size]? = some (.cells #[.int .i64 0, .slice none 0 0] 115 (0, 0))) := by show _ = _; rw [hw5, heap_setCells g _ (by omega)]; exact KR4.out
        have KT5 : Hid (Tab w5) := KT0.out.kept KG5.out hb0
        rw [← hw5]
        clear hw5 KB4 KG4 KR4 KW4 KT4
        obtain ⟨hz5, d0, d1, e0, e1⟩ := two_cells KR5.out (grown_refl w5 (some b)) hbn
        go_wp2_with fail
        refine bodyPost_ret (v := .tuple #[.agg #[.int .i64 0, .slice none 0 0], .bool false]) (by simp [results, Tryd.results25, go_sem, *]) rfl ⟨?_, R, L, ?_, ?_⟩
        · rw [HFN.out, HC.out]; exact ⟨_, _, _, _, rfl, fun h => by cases h⟩
        · rw [HFN.out, HC.out]
          repeat (rw [Below.heap_setCell _ _ _ _ (by simp; omega)])
          exact KB5.out
        · repeat (refine grown_setCell ?_ (Or.inr (by simp)) _)
          exact KG5.out
      · have HC : Hid (M.code s R F L (M.ins s q R F L).1 (L - (k + 1)) = M.code s R F L (p + 2) L) := by
          show _ = _
          rw [← rC.out, show L - k = (L - (k + 1)) + 1 by omega]
          conv => rhs; unfold M.code
          rw [if_pos hok]
        have hq2 := (M.ins_le (s := s) (p := q) (r := R) (f := F) (l := L) hq).2
        have HOK : Hid ((M.ins s q R F L).2 = true) := hok
        have KQ : Hid ((M.ins s q R F L).1 = p + 2 + 4 * (k + 1)) := by
          show _ = _
          have := M.ins_yes hok
          have := rQ.out
          omega
        clear rC hok
        simp only []
        iterate 13 (first | go_values | go_skip | go_guarded | go_step | go_upon | go_back)
        refine wpList_store_mid rfl 120 (.tmp 46) (.tmp 44) rfl g (k * 4) #[.int .u8 a0, .int .u8 a1, .int .u8 a2, .int .u8 a3] rfl rfl (KW4.out.blk.there _ _ (by simp; omega)) (by kernel_rfl) (by simp [Value.oneCell']) ?_
        have HW5 : ∃ w5, w5 = w4.setCells g (k * 4) #[Value.int .u8 a0, .int .u8 a1, .int .u8 a2, .int .u8 a3].toList := ⟨_, rfl⟩
        obtain ⟨w5, hw5⟩ := HW5
        have KB5 : Hid (w5.heap[b]? = some (rdA s ((M.ins s q R F L).1 : Nat) f R L)) := by show _ = _; rw [hw5, heap_setCells g b (by omega)]; exact KB4.out
        have KG5 : Hid (w.grownBy w5 (some b)) := by show World.grownBy _ _ _; rw [hw5]; exact grown_setCells g _ _ _ _ KG4.out (by omega)
        have KR5 : Hid (w5.heap[w.heap.size]? = some (.cells #[.int .i64 0, .slice none 0 0] 115 (0, 0))) := by show _ = _; rw [hw5, heap_setCells g _ (by omega)]; exact KR4.out
        have KT5 : Hid (Tab w5) := KT0.out.kept KG5.out hb0
        have KW5 : Hid (Full w5 g 120 (L * 4) ((k + 1) * 4) (codeP s (p + 2))) := by
          show Full _ _ _ _ _ _
          rw [hw5, show (k + 1) * 4 = k * 4 + 4 by omega]
          obtain ⟨rfl, rfl, rfl, rfl⟩ := HA.out HOK.out
          have hqq := rQ.out
          refine KW4.out.sets4 (by omega) _ _ _ _ ?_ ?_ ?_ ?_ <;> (unfold codeP; rw [hqq]; congr 3; omega)
        rw [← hw5]
        clear hw5 KB4 KG4 KR4 KW4 KT4 HA HOK rQ
        generalize (M.ins s q R F L).1 = q' at *
        go_wp2_with fail
        go_roundw
        case rel => exact ⟨k + 1, q', by omega, hq2, by go_num, KB5, KG5, KR5, KT5, KW5, KQ, HC⟩
        case measure => simp [intOf]; omega
    · obtain rfl : k = L := by omega
      have HC : Hid (M.code s R F k (p + 2) k = (q, true)) := by
        show _ = _
        rw [← rC.out, Nat.sub_self]; rfl
      clear rC
      obtain ⟨hz5, d0, d1, e0, e1⟩ := two_cells rR.out (grown_refl wr (some b)) (by omega)
      obtain ⟨_, _, _, x3, _⟩ := rdA_cells rB.out
      go_wp2_with fail
      refine bodyPost_ret (v := .tuple #[.agg #[.int .i64 R, .slice (some ⟨g, 0, none⟩) k k], .bool true]) (by simp [results, Tryd.results25, go_sem, *]) rfl ⟨?_, R, k, ?_, ?_⟩
      · rw [HFN.out, HC.out]
        refine ⟨_, _, _, _, rfl, fun _ => ⟨by rw [HR.out], by rw [HL.out], rfl, g, by omega, rfl, rW.out.block ?_⟩⟩
        repeat (rw [Below.heap_setCell _ _ _ _ (by simp; omega)])
      · rw [HFN.out, HC.out]
        repeat (rw [Below.heap_setCell _ _ _ _ (by simp; omega)])
        exact rB.out
      · repeat (refine grown_setCell ?_ (Or.inr (by simp)) _)
        exact rG.out
set_option maxHeartbeats 400000 in
theorem function_no1 (b : Nat) (s : ByteArray) (p : Nat) (f r l : Int) (w : World) (h : w.heap[b]? = some (rdA s p f r l)) (hp : p ≤ s.size) (ht1 : M.tk s p 2 8 = false) :
    Calls Tryd.prog 25 #[.pointer (some ⟨b, 0, none⟩)] w fun e w' => Func2 s p w w' e false ∧ ∃ r' l', w'.heap[b]? = some (rdA s p f r' l') ∧ w.grownBy w' (some b) := by
  have hb := heap_lt h
  have H : Hid (w.heap[b]? = some (rdA s p f r l)) := h
  clear h
  go_enter Tryd.func25, Tryd.ntmps25
  go_wp2_with fail
  refine (take_bad b s p 2 8 f r l _ _ _ (rdA_alloc H.out _) hp rfl rfl ht1).mono ?_
  rintro e w1 ⟨rfl, hh, hg⟩
  have HH : Hid (w1.heap[b]? = some (rdA s p f r l)) := hh
  obtain ⟨_, _, _, x3, _⟩ := rdA_cells hh
  obtain ⟨_, _, y3, y4⟩ := rdA_frozen hh
  obtain ⟨hz5, d0, d1, e0, e1⟩ := two_cells (heap_alloc_new w (.cells #[.int .i64 0, .slice none 0 0] 115)) hg (by omega)
  clear hh
  go_wp2_with fail
  refine bodyPost_ret (v := .tuple #[.agg #[.int .i64 0, .slice none 0 0], .bool false]) (by simp [results, Tryd.results25, go_sem, *]) rfl ⟨⟨_, _, _, _, rfl, fun h => by cases h⟩, 0, l, ?_, ?_⟩
  · repeat (rw [Below.heap_setCell _ _ _ _ (by simp; omega)])
    exact rdA_set3 HH.out _
  · repeat (refine grown_setCell ?_ (by first | exact Or.inl rfl | exact Or.inr (by simp)) _)
    exact grown_trans (World.grownBy_alloc _ _ _) hg

set_option maxHeartbeats 400000 in
theorem function_no2 (b : Nat) (s : ByteArray) (p : Nat) (f r l : Int) (w : World) (h : w.heap[b]? = some (rdA s p f r l)) (hs : s.size ≤ maxLen) (ht1 : M.tk s p 2 8 = true) (ht2 : M.tk s (p + 1) 1 200 = false) :
    Calls Tryd.prog 25 #[.pointer (some ⟨b, 0, none⟩)] w fun e w' => Func2 s p w w' e false ∧ ∃ r' l', w'.heap[b]? = some (rdA s ((p + 1 : Nat) : Int) f r' l') ∧ w.grownBy w' (some b) := by
  have hb := heap_lt h
  have H : Hid (w.heap[b]? = some (rdA s p f r l)) := h
  have HS : Hid (s.size ≤ maxLen) := hs
  have HT1 : Hid (M.tk s p 2 8 = true) := ht1
  have HT2 : Hid (M.tk s (p + 1) 1 200 = false) := ht2
  obtain ⟨hp, q1, q2⟩ := M.tk_lt ht1
  clear h hs ht1 ht2
  go_enter Tryd.func25, Tryd.ntmps25
  go_wp2_with fail
  refine (take_good b s p 2 8 f r l _ _ _ (rdA_alloc H.out _) HS.out rfl rfl HT1.out).mono ?_
  rintro e w1 ⟨rfl, hh, hg⟩
  have HH : Hid (w1.heap[b]? = some (rdA s ((p + 1 : Nat) : Int) f r l)) := hh
  obtain ⟨_, _, _, x3, _⟩ := rdA_cells hh
  obtain ⟨_, _, y3, y4⟩ := rdA_frozen hh
  clear hh
  generalize hR : M.bt s p = R at *
  have HR : Hid (M.bt s p = R) := hR
  clear hR
  go_wp2_with fail
  refine (take_bad b s (p + 1) 1 200 f R l _ _ _ (rdA_set3 HH.out _) (by omega) rfl rfl HT2.out).mono ?_
  rintro e w2 ⟨rfl, hh, hg2⟩
  have HH2 : Hid (w2.heap[b]? = some (rdA s ((p + 1 : Nat) : Int) f R l)) := hh
  obtain ⟨_, _, _, _, z4⟩ := rdA_cells hh
  obtain ⟨_, _, _, u4⟩ := rdA_frozen hh
  have gB : (w.alloc (.cells #[.int .i64 0, .slice none 0 0] 115)).grownBy w2 (some b) := grown_trans (grown_setCell hg (Or.inl rfl) _) hg2
  obtain ⟨hz5, d0, d1, e0, e1⟩ := two_cells (heap_alloc_new w (.cells #[.int .i64 0, .slice none 0 0] 115)) gB (by omega)
  clear hh x3 y3 y4
  go_wp2_with fail
  refine bodyPost_ret (v := .tuple #[.agg #[.int .i64 0, .slice none 0 0], .bool false]) (by simp [results, Tryd.results25, go_sem, *]) rfl ⟨⟨_, _, _, _, rfl, fun h => by cases h⟩, R, 0, ?_, ?_⟩
  · repeat (rw [Below.heap_setCell _ _ _ _ (by simp; omega)])
    exact rdA_set4 HH2.out _
  · repeat (refine grown_setCell ?_ (by first | exact Or.inl rfl | exact Or.inr (by simp)) _)
    exact grown_trans (World.grownBy_alloc _ _ _) gB

/-- A function: just as 'fn' says. -/
theorem function_any (b : Nat) (s : ByteArray) (p F : Nat) (f r l : Int) (w : World) (h : w.heap[b]? = some (rdA s p f r l)) (hs : s.size ≤ maxLen) (hp : p ≤ s.size) (hb0 : b ≠ 0) (hT : Tab w) (hf : Hid (f = F)) (h2 : 1 ≤ F) (h4 : F ≤ 8) :
    Calls Tryd.prog 25 #[.pointer (some ⟨b, 0, none⟩)] w fun e w' => Func2 s p w w' e (M.fn s p F).2 ∧ ∃ r' l', w'.heap[b]? = some (rdA s ((M.fn s p F).1 : Nat) f r' l') ∧ w.grownBy w' (some b) := by
  by_cases ht1 : M.tk s p 2 8 = true
  · by_cases ht2 : M.tk s (p + 1) 1 200 = true
    · exact function_try b s p F f r l w h hs hb0 hT hf h2 h4 ht1 ht2
    · have e : M.fn s p F = (p + 1, false) := by unfold M.fn; rw [if_pos ht1, if_neg ht2]
      rw [e]
      exact function_no2 b s p f r l w h hs ht1 (by simpa using ht2)
  · have e : M.fn s p F = (p, false) := by unfold M.fn; rw [if_neg ht1]
    rw [e]
    exact function_no1 b s p f r l w h hp (by simpa using ht1)

end Go.Proofs.YtohobhbcjikhpaaDoor
