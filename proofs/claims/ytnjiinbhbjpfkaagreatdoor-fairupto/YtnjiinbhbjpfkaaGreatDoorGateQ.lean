/-
  A task goes from where it is to a place in a line, ahead of others; sleep.
-/
import Derived.Test.YtnjiinbhbjpfkaaGreatDoorGateP
namespace Go.Proofs.YtnjiinbhbjpfkaaGreatDoor
open Go.RowKit
theorem mid_at {α : Type} (xs : List α) (y : α) (k j : Nat) (v : α) (hk : k < xs.length) (h : (xs.take k ++ y :: xs.drop k)[j]? = some v) : (j < k ∧ xs[j]? = some v) ∨ (j = k ∧ v = y) ∨ (∃ i, j = k + 1 + i ∧ (xs.drop k)[i]? = some v) := by
  have hl : (xs.take k).length = k := by rw [List.length_take]; omega
  by_cases h1 : j < k
  · rw [List.getElem?_append_left (by omega), List.getElem?_take, if_pos h1] at h
    exact Or.inl ⟨h1, h⟩
  · rw [List.getElem?_append_right (by omega), hl] at h
    by_cases h2 : j = k
    · subst h2
      rw [Nat.sub_self] at h
      simp at h
      exact Or.inr (Or.inl ⟨rfl, h.symm⟩)
    · obtain ⟨i, hi⟩ : ∃ i, j = k + 1 + i := ⟨j - k - 1, by omega⟩
      subst hi
      rw [show k + 1 + i - k = i + 1 by omega, List.getElem?_cons_succ] at h
      exact Or.inr (Or.inr ⟨i, rfl, h⟩)
theorem blk_drew {w : World} {g n : Nat} {T : TypeId} (h : Blk w g T n) : Blk w.drew g T n := h
theorem sins_any (n k x c : Nat) (y : Value) (hy : y.oneCell' = true) (xs : List Value) (h1 : ∀ v ∈ xs, v.oneCell' = true) (w : World) (ad : Option Addr) (hown : w.ownsRow 0 155 1 (.slice ad n c) n xs) (hk : k < n) (hx : w.heap[x]? = some (.cells #[y] 155 (0, 0))) (hxb : ∀ b, (Value.slice ad n c).ownBlock = some b → b ≠ x) (hn2 : n ≤ 900000000) :
    Calls Tryz.prog 203 #[.slice ad n c, .int .i64 k, .slice (some ⟨x, 0, none⟩) 1 1] w fun e w' => ∃ g' c', e = .returned (.slice (some ⟨g', 0, none⟩) (n + 1) c') ∧ w'.ownsRow 0 155 1 (.slice (some ⟨g', 0, none⟩) (n + 1) c') (n + 1) (xs.take k ++ y :: xs.drop k) ∧ w.grownBy w' (Value.slice ad n c).ownBlock ∧ ((Value.slice ad n c).ownBlock = some g' ∨ w.heap.size ≤ g') := by
  obtain ⟨b, c2, he⟩ := row_form hown (by omega)
  injection he with he1 _ he2
  subst he1 he2
  obtain ⟨_, hnc, hcm, hlen, hB, hcell⟩ := own_ge hown
  have hxy : w.cell? ⟨x, 0, none⟩ = some y := by simp [World.cell?, hx]
  have hlx : (xs.take k ++ y :: xs.drop k).length = n + 1 := by
    rw [List.length_append, List.length_cons, List.length_take, List.length_drop]; omega
  have hdl : (xs.drop k).length = n - k := by rw [List.length_drop]; omega
  by_cases hroom : n + 1 ≤ c
  · have hsp : ∀ j, j < n + 1 → (w.cell? ⟨b, j, none⟩).isSome = true := fun j hj => by
      obtain ⟨⟨v, hv⟩, _⟩ := hB.cell j (by omega)
      rw [hv]; rfl
    have hfz : ∀ j, j < n + 1 → w.frozen? ⟨b, j, none⟩ = false := fun j hj => (hB.cell j (by omega)).2
    obtain ⟨cur, hcur, hsz⟩ := id hB
    refine (sins_room b n c k x xs y w hk hroom (by unfold maxLen at hcm; omega) (fun e => hxb b rfl e.symm) hlen hcell hsp hfz hxy h1 hy 155 155 1 c (by simp [World.shape?, hx]) (by simp [World.shape?, hcur, hsz]) (by omega) (by simp [World.frozen?, hx]) (by simp [World.frozen?, hx])).mono ?_
    rintro e w' ⟨rfl, rfl⟩
    have hin1 : ∀ j (hj : j < (xs.drop k).length), ((w.drew.setCells b (k + 1) (xs.drop k))).cell? ⟨b, k + 1 + j, none⟩ = some (xs.drop k)[j] := World.cell?_setCells_in b (xs.drop k) (k + 1) w.drew (fun j hj => hsp _ (by omega))
    have hsp2 : ∀ j, j < [y].length → ((w.drew.setCells b (k + 1) (xs.drop k)).cell? ⟨b, k + j, none⟩).isSome = true := fun j hj => by
      have hj0 : j = 0 := by simp at hj; exact hj
      subst hj0
      rw [World.cell?_setCells_out b (xs.drop k) (k + 1) w.drew ⟨b, k + 0, none⟩ (fun _ _ => Or.inl (by show k + 0 < k + 1; omega))]
      exact hsp (k + 0) (by omega)
    refine ⟨b, c, rfl, own_mk (Nat.zero_le _) hroom hcm hlx (Blk.sets b _ _ _ (Blk.sets b _ _ _ (blk_drew hB))) (fun j v hj => ?_), grown_sets b (grown_sets b (grown_drew (grown_refl _ _)) _ _) _ _, Or.inl rfl⟩
    rcases mid_at xs y k j v (by omega) hj with ⟨a1, a2⟩ | ⟨rfl, rfl⟩ | ⟨i, rfl, a2⟩
    · rw [World.cell?_setCells_out b [y] k _ ⟨b, j, none⟩ (fun _ _ => Or.inl a1), World.cell?_setCells_out b (xs.drop k) (k + 1) _ ⟨b, j, none⟩ (fun _ _ => Or.inl (by show j < k + 1; omega))]
      exact hcell j v a2
    · exact World.cell?_setCells_in b [v] j _ hsp2 0 (by simp)
    · obtain ⟨hi, e⟩ := List.getElem?_eq_some_iff.1 a2
      rw [World.cell?_setCells_out b [y] k _ ⟨b, k + 1 + i, none⟩ (fun _ _ => Or.inr (by show k + 1 ≤ k + 1 + i; omega)), hin1 i hi, e]
  · refine (sins_grow b n c k x xs y w hk hnc (by omega) (by omega) hlen hcell hxy h1 hy).mono ?_
    rintro e w' ⟨rfl, rfl⟩
    have hGn : n + 1 ≤ grownCap w (n + 1) c 155 := grownCap_ge w _ _ _
    have hGm := grownCap_le_maxLen w (n + 1) c 155 (by unfold maxLen; omega)
    generalize grownCap w (n + 1) c 155 = G at *
    obtain ⟨ROW, hROW⟩ : ∃ ROW : Array Value, ROW = (xs.take k).toArray ++ Builtin.zeroCells (Value.pointer none).cells (n + 1 - k) ++ Builtin.zeroCells (Value.pointer none).cells (G - (n + 1)) := ⟨_, rfl⟩
    have hRs : ROW.size = G := by
      rw [hROW]
      simp [Builtin.zeroCells, Value.cells]
      omega
    have hRg : ∀ j v, j < k → xs[j]? = some v → ROW[j]? = some v := fun j v hj hv => by
      rw [hROW, Array.getElem?_append_left (by simp [Builtin.zeroCells, Value.cells]; omega), Array.getElem?_append_left (by simp; omega)]
      simp [hj, hv]
    rw [← hROW]
    clear hROW
    have hnew : (w.alloc (.cells ROW 155)).heap[w.heap.size]? = some (.cells ROW 155 (0, 0)) := heap_alloc_new w _
    have hB0 : Blk (w.alloc (.cells ROW 155)) w.heap.size 155 G := ⟨ROW, hnew, hRs⟩
    have hB1 : Blk (((w.alloc (.cells ROW 155)).drew.setCells w.heap.size k [y]).drew) w.heap.size 155 G := Blk.sets _ _ _ _ (blk_drew hB0)
    have hsome : ∀ (W : World), Blk W w.heap.size 155 G → ∀ j, j < n + 1 → (W.cell? ⟨w.heap.size, j, none⟩).isSome = true := fun W hW j hj => by
      obtain ⟨⟨v, hv⟩, _⟩ := hW.cell j (by omega)
      rw [hv]; rfl
    refine ⟨w.heap.size, G, rfl, own_mk (Nat.zero_le _) hGn hGm hlx (Blk.sets _ _ _ _ hB1) (fun j v hj => ?_), ?_, Or.inr (Nat.le_refl _)⟩
    · rcases mid_at xs y k j v (by omega) hj with ⟨a1, a2⟩ | ⟨rfl, rfl⟩ | ⟨i, rfl, a2⟩
      · rw [World.cell?_setCells_out w.heap.size (xs.drop k) (k + 1) _ ⟨w.heap.size, j, none⟩ (fun _ _ => Or.inl (by show j < k + 1; omega))]
        show ((w.alloc (.cells ROW 155)).drew.setCells w.heap.size k [y]).cell? ⟨w.heap.size, j, none⟩ = _
        rw [World.cell?_setCells_out w.heap.size [y] k _ ⟨w.heap.size, j, none⟩ (fun _ _ => Or.inl a1)]
        show (w.alloc (.cells ROW 155)).cell? ⟨w.heap.size, j, none⟩ = _
        simp only [World.cell?, hnew]
        exact hRg j v a1 a2
      · rw [World.cell?_setCells_out w.heap.size (xs.drop j) (j + 1) _ ⟨w.heap.size, j, none⟩ (fun _ _ => Or.inl (by show j < j + 1; omega))]
        exact World.cell?_setCells_in w.heap.size [v] j _ (fun j' hj' => by
          have hj0 : j' = 0 := by simp at hj'; exact hj'
          subst hj0
          exact hsome _ (blk_drew hB0) (j + 0) (by omega)) 0 (by simp)
      · obtain ⟨hi, e⟩ := List.getElem?_eq_some_iff.1 a2
        rw [← e]
        exact World.cell?_setCells_in w.heap.size (xs.drop k) (k + 1) _ (fun j' hj' => hsome _ hB1 (k + 1 + j') (by omega)) i hi
    · have g0 : w.grownBy (w.alloc (.cells ROW 155)) (some b) := World.grownBy_alloc _ _ _
      have hout : ∀ {W : World}, w.grownBy W (some b) → ∀ (vs : List Value) (o : Nat), w.grownBy (W.setCells w.heap.size o vs) (some b) := fun {W} hW vs => by
        induction vs generalizing W with
        | nil => intro o; exact hW
        | cons v vs ih => intro o; exact ih (grown_setCell hW (Or.inr (Nat.le_refl _)) _) (o + 1)
      exact hout (grown_drew (hout (grown_drew g0) _ _)) _ _
def CameM (w w' : World) (b o : Nat) (T : TypeId) (N : Nat) (E Tk : Nat → Value) (ad : Option Addr) (n c tb k : Nat) (xs : List Nat) : Prop :=
  ∃ g c', Ln w' b o T N (upd E o (.slice (some ⟨g, 0, none⟩) (n + 1) c')) (some ⟨g, 0, none⟩) (n + 1) c' (xs.take k ++ tb :: xs.drop k) ∧ Full w' tb 160 7 7 (upd (upd Tk 2 (.bool false)) 3 (Pt b o)) ∧ Only (fun k => k = b ∨ k = tb ∨ (Value.slice ad n c).ownBlock = some k) w w' ∧ ((Value.slice ad n c).ownBlock = some g ∨ w.heap.size ≤ g)
set_option maxRecDepth 100000 in
set_option maxHeartbeats 4000000 in
theorem insertM (b o c n tb N k : Nat) (hk : k < n) (T : TypeId) (ad : Option Addr) (E Tk : Nat → Value) (xs : List Nat) (R : World → Prop) (w : World) (nb : b ≠ tb) (nk : ∀ k, (Value.slice ad n c).ownBlock = some k → k ≠ b ∧ k ≠ tb) (hn2 : n ≤ 900000000)
    (H : Calls Tryz.prog 133 #[P0 tb] w fun e w1 => e = .returned (.tuple #[]) ∧ Ln w1 b o T N E ad n c xs ∧ Full w1 tb 160 7 7 Tk ∧ R w1) :
    Calls Tryz.prog 166 #[Pt b o, .int .i64 (k : Int), P0 tb] w fun e w' => e = .returned (.tuple #[]) ∧ ∃ w1, R w1 ∧ CameM w1 w' b o T N E Tk ad n c tb k xs := by
  have HH := hid H
  have HK := hid nk
  have HKN := hid hk
  clear H nk
  go_enter Tryz.func166, Tryz.ntmps166
  go_wp2_with fail
  refine HH.out.mono ?_
  rintro e w1 ⟨rfl, hL, hT, hR⟩
  obtain ⟨c31, z31⟩ := hL.hE.cells o hL.ho
  obtain ⟨c2, z2⟩ := hT.cells 2 (by omega)
  obtain ⟨c3, z3⟩ := hT.cells 3 (by omega)
  rw [hL.e] at c31
  generalize Tk 2 = y2 at c2
  generalize Tk 3 = y3 at c3
  have le := hL.hE.lt
  have lt := hT.lt
  have HL := hid hL
  have HT := hid hT
  have HR := hid hR
  have ne' : ¬ tb = b := fun e => nb e.symm
  clear hL hT hR
  go_wp2_with fail
  generalize hw2 : ((w1.setCell ⟨tb, 2, none⟩ (.bool false)).setCell ⟨tb, 3, none⟩ (.pointer (some ⟨b, o, none⟩))).alloc (.cells #[P0 tb] 155) = w2
  have hz2 : w2.heap.size = w1.heap.size + 1 := by rw [← hw2]; simp [World.setCell]
  have hoth : ∀ k, k ≠ tb → k < w1.heap.size → w2.heap[k]? = w1.heap[k]? := fun k hk hlt => by
    rw [← hw2, Below.heap_alloc _ _ _ (by simp [World.setCell]; exact hlt), Below.heap_setCell _ _ _ _ hk, Below.heap_setCell _ _ _ _ hk]
  have hL2 : Ln w2 b o T N E ad n c xs := { hE := HL.out.hE.block (hoth b nb le), ho := HL.out.ho, e := HL.out.e, row := own_of HL.out.row (fun k' hk' => hoth k' (HK.out k' hk').2 (own_ty HL.out.row k' hk').2.1), hn := HL.out.hn }
  have hT2 : Full w2 tb 160 7 7 (upd (upd Tk 2 (.bool false)) 3 (Pt b o)) := by
    rw [← hw2]
    exact (((HT.out.upd 2 _).upd 3 _).block (Below.heap_alloc _ _ _ (by simp [World.setCell]; exact lt)))
  have hx2 : w2.heap[w1.heap.size]? = some (.cells #[P0 tb] 155 (0, 0)) := by
    rw [← hw2]
    have := heap_alloc_new ((w1.setCell ⟨tb, 2, none⟩ (.bool false)).setCell ⟨tb, 3, none⟩ (.pointer (some ⟨b, o, none⟩))) (.cells #[P0 tb] 155)
    simpa [World.setCell] using this
  have hO2 : Only (fun k => k = b ∨ k = tb ∨ (Value.slice ad n c).ownBlock = some k) w1 w2 := by
    rw [← hw2]
    exact only_alloc (only_setCell (only_setCell (only_refl _ _) (Or.inl (Or.inr (Or.inl rfl))) _) (Or.inl (Or.inr (Or.inl rfl))) _) _
  refine (sins_any n k w1.heap.size c (P0 tb) rfl (xs.map P0) (fun v hv => by obtain ⟨u, _, rfl⟩ := List.mem_map.1 hv; rfl) w2 ad hL2.row hk hx2 (fun b' hb' => by have := (own_ty HL.out.row b' hb').2.1; omega) (by omega)).mono ?_
  rintro e w3 ⟨g, c', rfl, ho3, hg3, hp3⟩
  have hE3 : Full w3 b T N N E := hL2.hE.block (hg3.block b hL2.hE.lt (fun h => (HK.out b h.symm).1 rfl))
  have hT3 : Full w3 tb 160 7 7 (upd (upd Tk 2 (.bool false)) 3 (Pt b o)) := hT2.block (hg3.block tb hT2.lt (fun h => (HK.out tb h.symm).2 rfl))
  have hO3 : Only (fun k => k = b ∨ k = tb ∨ (Value.slice ad n c).ownBlock = some k) w1 w3 :=
    hO2.trans (S1 := fun k => (Value.slice ad n c).ownBlock = some k) ⟨hg3.os, hg3.tape, hg3.output, hg3.size, fun k hk hn => hg3.block k hk (fun e => hn e.symm)⟩ (fun k h _ => Or.inr (Or.inr h))
  have hgb : g ≠ b ∧ g ≠ tb := by
    rcases hp3 with h | h
    · exact HK.out g h
    · exact ⟨by omega, by omega⟩
  obtain ⟨d31, f31⟩ := hE3.cells o HL.out.ho
  have le3 := hE3.lt
  have HE3 := hid hE3
  have HT3 := hid hT3
  have HO3 := hid hO3
  have HP3 := hid (And.intro hgb (And.intro hp3 hz2))
  have HW3 : Hid (w3.ownsRow 0 155 1 (.slice (some ⟨g, 0, none⟩) (n + 1) c') (n + 1) ((xs.take k ++ tb :: xs.drop k).map P0)) := by
    show World.ownsRow _ _ _ _ _ _ _
    rw [List.map_append, List.map_take, List.map_cons, List.map_drop]
    exact ho3
  clear hw2 hoth hL2 hT2 hx2 hO2 ho3 hg3 hp3 hE3 hT3 hO3 hgb c31 z31 c2 z2 c3 z3
  go_wp2_with fail
  go_end0
  refine ⟨rfl, w1, HR.out, g, c', { hE := HE3.out.upd o _, ho := HL.out.ho, e := upd_at _ _ _, row := own_of HW3.out (fun k' h => ?_), hn := by omega }, HT3.out.off (fun e => nb e.symm), only_setCell HO3.out (Or.inl (Or.inl rfl)) _, ?_⟩
  · have : k' = g := by injection h with h; exact h.symm
    subst this
    exact Below.heap_setCell _ _ _ _ HP3.out.1.1
  · rcases HP3.out.2.1 with h | h
    · exact Or.inl h
    · exact Or.inr (by have := HP3.out.2.2; omega)
end Go.Proofs.YtnjiinbhbjpfkaaGreatDoor
namespace Go.Proofs.YtnjiinbhbjpfkaaGreatDoor.F
open Go.RowKit
theorem cameR {p : Prm} {s : Pl} {g : Geo} {w w1 w' : World} {x y t gb c' n : Nat} {l : List Nat} (h1 : Tr p s g w (s.out1 t) g w1) (hl : lnok s x y) (ht : isT s t) (hxt : ¬ (x = 5 ∧ y = t)) (hn : l.length = n + 1)
    (hL' : Ln w' (lnB p g x y) (lnO x y) (lnT x) (lnN x) (upd (lnE p (s.out1 t) g x y) (lnO x y) (.slice (some ⟨gb, 0, none⟩) (n + 1) c')) (some ⟨gb, 0, none⟩) (n + 1) c' (l.map g.tb))
    (hT' : Full w' (g.tb t) 160 7 7 (upd (upd (tskE p (s.out1 t) g t) 2 (.bool false)) 3 (Pt (lnB p g x y) (lnO x y))))
    (hO' : Only (fun k => k = lnB p g x y ∨ k = g.tb t ∨ (Value.slice (g.ro x y).1 n (g.ro x y).2).ownBlock = some k) w1 w')
    (hB' : (Value.slice (g.ro x y).1 n (g.ro x y).2).ownBlock = some gb ∨ w1.heap.size ≤ gb) :
    Tr p s g w (s.into x y t l) (g.at x y (some ⟨gb, 0, none⟩, c')) w' := by
  have hn1 := out1_nt s t
  have hl1 : lnok (s.out1 t) x y := (lnok_nt hn1).2 hl
  have ht1 : isT (s.out1 t) t := (isT_nt hn1).2 ht
  refine h1.trans (h1.r.line hl1 ht1 rfl (Or.inr rfl) hxt ?_ ?_ ?_ ?_ ?_)
  · rw [hn]; exact hL'.hE
  · rw [hn]; exact hL'.row
  · refine hT'.congr (fun j hj => tskE_line (v := ((s.out1 t).T t).to x y) hl1 rfl hxt _ ?_ ?_ ?_ ?_ ?_ ?_ ?_ j hj) <;> rfl
  · refine hO'.mono (fun k hk _ => ?_)
    rw [own_adB] at hk
    exact hk
  · intro k hk
    have e : gb = k := by injection hk
    subst e
    rw [own_adB] at hB'
    exact hB'
theorem insertR {p : Prm} {s : Pl} {g : Geo} {w : World} {x y t k : Nat} (h : Rep p s g w) (hW : LW s) (hl : lnok s x y) (ht : isT s t) (hxt : ¬ (x = 5 ∧ y = t)) (hne : (s.T t).wh ≠ some (x, y)) (hk : k ≤ (s.q x y).length) :
    Calls Tryz.prog 166 #[Pt (lnB p g x y) (lnO x y), .int .i64 (k : Int), P0 (g.tb t)] w fun e w' => e = .returned (.tuple #[]) ∧ ∃ r, Tr p s g w (s.into x y t ((s.q x y).take k ++ t :: (s.q x y).drop k)) (g.at x y r) w' := by
  have hlen := hW.len hl
  have hL := h.ln hl (by omega)
  have hT := h.tk ht
  have hB : Full w (lnB p g x y) (lnT x) (lnN x) (lnN x) (lnE p s g x y) := hL.hE
  have hty : lnT x ≠ 155 := by unfold lnT; split <;> decide
  have nb : lnB p g x y ≠ g.tb t := by
    unfold lnB
    by_cases h5 : x = 5
    · rw [if_pos h5]
      exact fun e => hxt ⟨h5, h.tb_inj (lnok_t hl h5) ht e⟩
    · rw [if_neg h5]
      exact h.E.ne hT (by decide)
  have hn1 := out1_nt s t
  have hl1 : lnok (s.out1 t) x y := (lnok_nt hn1).2 hl
  have ht1 : isT (s.out1 t) t := (isT_nt hn1).2 ht
  have hq1 := out1_q s hne
  have hso : Calls Tryz.prog 133 #[P0 (g.tb t)] w fun e w1 => e = .returned (.tuple #[]) ∧ Ln w1 (lnB p g x y) (lnO x y) (lnT x) (lnN x) (lnE p (s.out1 t) g x y) (g.ro x y).1 (s.q x y).length (g.ro x y).2 ((s.q x y).map g.tb) ∧ Full w1 (g.tb t) 160 7 7 (tskE p (s.out1 t) g t) ∧ Tr p s g w (s.out1 t) g w1 := by
    refine (stepOutR h hW ht).mono ?_
    rintro e w1 ⟨rfl, h1⟩
    have hL1 := h1.r.ln hl1 (by rw [hq1]; omega)
    rw [hq1] at hL1
    exact ⟨rfl, hL1, h1.r.tk ht1, h1⟩
  have hll : ((s.q x y).take k ++ t :: (s.q x y).drop k).length = (s.q x y).length + 1 := by
    rw [List.length_append, List.length_cons, List.length_take, List.length_drop]; omega
  by_cases hkn : k < (s.q x y).length
  · refine (insertM (lnB p g x y) (lnO x y) (g.ro x y).2 (s.q x y).length (g.tb t) (lnN x) k hkn (lnT x) (g.ro x y).1 (lnE p (s.out1 t) g x y) (tskE p (s.out1 t) g t) ((s.q x y).map g.tb) (fun w1 => Tr p s g w (s.out1 t) g w1) w nb (fun k hk => ⟨own_ne hL.row hB hty k hk, own_ne hL.row hT (by decide) k hk⟩) (by omega) hso).mono ?_
    rintro e w' ⟨rfl, w1, h1, gb, c', hL', hT', hO', hB'⟩
    refine ⟨rfl, (some ⟨gb, 0, none⟩, c'), cameR h1 hl ht hxt hll ?_ hT' hO' hB'⟩
    rw [List.map_append, List.map_take, List.map_cons, List.map_drop]
    exact hL'
  · have hke : k = (s.q x y).length := by omega
    subst hke
    refine (insertL (lnB p g x y) (lnO x y) (g.ro x y).2 (s.q x y).length (g.tb t) (lnN x) (lnT x) (g.ro x y).1 (lnE p (s.out1 t) g x y) (tskE p (s.out1 t) g t) ((s.q x y).map g.tb) (fun w1 => Tr p s g w (s.out1 t) g w1) w nb (fun k hk => ⟨own_ne hL.row hB hty k hk, own_ne hL.row hT (by decide) k hk⟩) (by omega) hso).mono ?_
    rintro e w' ⟨rfl, w1, h1, gb, c', hL', hT', hO', hB'⟩
    refine ⟨rfl, (some ⟨gb, 0, none⟩, c'), cameR h1 hl ht hxt hll ?_ hT' hO' hB'⟩
    rw [List.take_length, List.drop_length, List.map_append]
    exact hL'
def Tsk.tl (v : Tsk) (u : Int) : Tsk := { v with till := u }
def plc (s : Pl) (u : Int) : Nat := (s.q 3 0).findIdx (fun a => decide (u < (s.T a).till))
def Pl.setTl (s : Pl) (t : Nat) (u : Int) : Pl := s.setT t ((s.T t).tl u)
def Pl.slept (s : Pl) (t : Nat) (u : Int) : Pl := (s.setTl t u).into 3 0 t ((s.q 3 0).take (plc (s.setTl t u) u) ++ t :: (s.q 3 0).drop (plc (s.setTl t u) u))
def sleepS (s : Pl) (t a : Nat) : Int × Pl := if ((topF s t).R a).1 = 0 then (0, s.slept t (B.aft s.clk ((topF s t).R a).2)) else (1, s)
theorem setTl_wh (s : Pl) (t : Nat) (u : Int) (a : Nat) : ((s.setTl t u).T a).wh = (s.T a).wh ∧ ((s.setTl t u).T a).lf = (s.T a).lf ∧ ((s.setTl t u).T a).fr = (s.T a).fr ∧ ((s.setTl t u).T a).run = (s.T a).run := by
  unfold Pl.setTl
  by_cases e : a = t
  · subst e; rw [setT_at]; exact ⟨rfl, rfl, rfl, rfl⟩
  · rw [setT_off _ _ e]; exact ⟨rfl, rfl, rfl, rfl⟩
theorem LW.setTl {s : Pl} (h : LW s) (t : Nat) (u : Int) : LW (s.setTl t u) := h.same rfl rfl (fun a => (setTl_wh s t u a).1)
theorem findIdx_congr' {q r : Nat → Bool} : ∀ (l : List Nat), (∀ u, u ∈ l → q u = r u) → l.findIdx q = l.findIdx r
  | [], _ => rfl
  | u :: l, h => by
    rw [List.findIdx_cons, List.findIdx_cons, h u (by simp), findIdx_congr' l (fun v hv => h v (by simp [hv]))]
theorem findIdx_map' {f : Nat → Nat} {q : Nat → Bool} : ∀ (l : List Nat), (l.map f).findIdx q = l.findIdx (fun a => q (f a))
  | [] => rfl
  | u :: l => by
    rw [List.map_cons, List.findIdx_cons, List.findIdx_cons, findIdx_map' l]
theorem fst_place (q : Nat → Bool) (xs : List Nat) : (if fst q xs < 0 then (xs.length : Int) else fst q xs) = ((xs.findIdx q : Nat) : Int) := by
  unfold fst
  have := List.findIdx_le_length (p := q) (xs := xs)
  by_cases h : xs.findIdx q < xs.length
  · rw [if_pos h, if_neg (by omega)]
  · rw [if_neg h, if_pos (by omega)]; omega
theorem tmdR {p : Prm} {s : Pl} {g : Geo} {w w2 : World} {t : Nat} {u : Int} (h : Rep p s g w) (ht : isT s t) (hm : Tmd w w2 (g.tb t) u) : Tr p s g w (s.setTl t u) g w2 := by
  obtain ⟨w1, hg, rfl, _⟩ := hm
  refine Tr.ahead hg ((h.kept hg).flag ht rfl rfl ?_ (only_setCell (S := fun k => k = g.tb t) (only_refl _ _) (Or.inl rfl) _))
  refine (((h.kept hg).tk ht).upd 5 _).congr (fun j hj => ?_)
  have hsl : ∀ a, sl (s.setT t ((s.T t).tl u)) g a t = sl s g a t := fun a => by
    unfold sl
    rw [rlen_eq (s := s) (s' := s.setT t ((s.T t).tl u)) rfl rfl rfl rfl rfl (by rw [setT_at]; rfl) rfl]
  have hc : j = 0 ∨ j = 1 ∨ j = 2 ∨ j = 3 ∨ j = 4 ∨ j = 5 ∨ j = 6 := by omega
  rcases hc with rfl | rfl | rfl | rfl | rfl | rfl | rfl
  · rfl
  · rw [upd_off _ _ _ _ (by decide)]; exact (hsl 12).symm
  · rw [upd_off _ _ _ _ (by decide)]; show _ = Value.bool _; rw [setT_at]; rfl
  · rw [upd_off _ _ _ _ (by decide)]; show _ = whV p g _; rw [setT_at]; rfl
  · rw [upd_off _ _ _ _ (by decide)]; show _ = lfV g t _; rw [setT_at]; rfl
  · rw [upd_at]; show _ = Value.int .i64 _; rw [setT_at]; rfl
  · rw [upd_off _ _ _ _ (by decide)]; exact (hsl 5).symm
theorem mine_setTl {p : Prm} {s : Pl} {g : Geo} {t : Nat} {u : Int} {i : Nat} (h : Mine p (s.setTl t u) g i) : Mine p s g i := by
  obtain ⟨x, y, z, hb⟩ := h
  refine ⟨x, y, z, ?_⟩
  have hv : vld (s.setTl t u) x y z = vld s x y z := vld_eq rfl (by rw [(setTl_wh s t u y).2.2.1]) (fun _ _ => by rw [(setTl_wh s t u y).2.1])
  by_cases hV : vld s x y z = true
  · rw [ob_v (hv.trans hV)] at hb
    rw [ob_v hV]
    by_cases hx : rowx x
    · rw [obk_row hx] at hb ⊢
      exact hb
    · have hle := vld_le hV
      have hc : x = 0 ∨ x = 1 ∨ x = 11 ∨ x = 13 ∨ x = 14 ∨ x = 15 ∨ x = 16 ∨ x = 17 ∨ x = 18 := by unfold rowx at hx; omega
      rcases hc with rfl | rfl | rfl | rfl | rfl | rfl | rfl | rfl | rfl <;> exact hb
  · rw [ob_n (by rw [hv]; exact hV)] at hb
    exact hb.elim
theorem sleepR {p : Prm} {s : Pl} {g : Geo} {w : World} {t : Nat} (x : Int) (h : Rep p s g w) (hW : LW s) (ht : isT s t) (hwh : (s.T t).wh ≠ some (3, 0)) (c0 : 0 ≤ s.clk) (c1 : s.clk ≤ 9223372036854775807) :
    Calls Tryz.prog 168 #[P0 p.eb, P0 (g.tb t), .int .i64 x] w fun e w' => e = .returned (.tuple #[]) ∧ ∃ r, Tr p s g w (s.slept t (B.aft s.clk x)) (g.at 3 0 r) w' := by
  have hl : lnok s 3 0 := Or.inr (Or.inl ⟨rfl, rfl⟩)
  have hlen := hW.len hl
  generalize hu : B.aft s.clk x = u
  have hl2 : lnok (s.setTl t u) 3 0 := Or.inr (Or.inl ⟨rfl, rfl⟩)
  have hW2 : LW (s.setTl t u) := hW.setTl t u
  have hwh2 : ((s.setTl t u).T t).wh ≠ some (3, 0) := by rw [(setTl_wh s t u t).1]; exact hwh
  obtain ⟨nm, hnm⟩ : ∃ nm : Nat → Bool, ∀ a, isT s a → nm (g.tb a) = decide (u < ((s.setTl t u).T a).till) := by
    classical
    refine ⟨fun b => if hb : ∃ a, isT s a ∧ g.tb a = b then decide (u < ((s.setTl t u).T hb.choose).till) else false, fun a ha => ?_⟩
    have hb : ∃ a', isT s a' ∧ g.tb a' = g.tb a := ⟨a, ha, rfl⟩
    show (if hb : ∃ a', isT s a' ∧ g.tb a' = g.tb a then decide (u < ((s.setTl t u).T hb.choose).till) else false) = _
    rw [dif_pos hb, h.tb_inj hb.choose_spec.1 ha hb.choose_spec.2]
  have hpl : ((s.q 3 0).map g.tb).findIdx nm = plc (s.setTl t u) u := by
    rw [findIdx_map']
    unfold plc
    exact findIdx_congr' _ (fun a ha => hnm a (hW.b 3 0 hl a ha).1)
  refine sleepL p.eb (g.tb t) (s.q 3 0).length (g.ro 3 0).2 (g.ro 3 0).1 s.clk x (fst nm ((s.q 3 0).map g.tb)) (tskE p s g t) (fun w' => ∃ r, Tr p s g w (s.slept t u) (g.at 3 0 r) w') w (h.E.ne (h.tk ht) (by decide)) (h.E.cell 28 (by omega)) (h.E.cell 33 (by omega)) (h.tk ht) c0 c1 ?_ ?_
  · intro w2 w3 hm hg
    rw [hu] at hm
    have h2 := (tmdR h ht hm).kept hg
    have hL := h2.r.ln hl2 (by show (s.q 3 0).length ≤ _; omega)
    obtain ⟨lb, hlb⟩ : ∃ lb, s.q 3 0 ≠ [] → (g.ro 3 0).1 = some ⟨lb, 0, none⟩ ∧ lb < w3.heap.size ∧ ∀ j x, ((s.q 3 0).map g.tb)[j]? = some x → w3.cell? ⟨lb, j, none⟩ = some (P0 x) := by
      by_cases e : s.q 3 0 = []
      · exact ⟨0, fun h => absurd e h⟩
      · have hr := hL.row
        obtain ⟨lb, lc, he⟩ := row_form hr (by exact fun e' => e (List.length_eq_zero_iff.1 e'))
        rw [he] at hr
        injection he with a1 _ _
        exact ⟨lb, fun _ => ⟨a1, (own_ty hr lb rfl).2.1, fun j x hx => (own_ge hr).2.2.2.2.2 j (P0 x) (by rw [List.getElem?_map]; show Option.map P0 ((s.q 3 0).map g.tb)[j]? = _; rw [hx]; rfl)⟩⟩
    have hne : ∀ {j : Nat} {x : Nat}, ((s.q 3 0).map g.tb)[j]? = some x → s.q 3 0 ≠ [] := fun hx e => by rw [e] at hx; simp at hx
    refine sidxP204 lb (g.ro 3 0).2 (s.q 3 0).length w.heap.size (g.ro 3 0).1 nm ((s.q 3 0).map g.tb) w3 (by rw [List.length_map]) (by omega) (fun j x hx => ⟨(hlb (hne hx)).1, (hlb (hne hx)).2.2 j x hx⟩) (fun e => (hlb (fun e' => e (by rw [e']; rfl))).2.1) ?_
    intro w4 hg4 x hx
    obtain ⟨a, ha, rfl⟩ := List.mem_map.1 hx
    have haT := (hW.b 3 0 hl a ha).1
    rw [hnm a haT]
    have h4 := h2.kept hg4
    obtain ⟨_, _, _, hbox⟩ := hm
    have hb4 : w4.cell? ⟨w.heap.size, 0, none⟩ = some (P0 (g.tb t)) := by
      have lb2 := heap_lt hbox
      have e1 := (grown_cell (grown_trans hg hg4) (a := ⟨w.heap.size, 0, none⟩) lb2).1
      rw [e1]
      simp [World.cell?, hbox]
    have hta := (h4.r.tk (t := a) haT).cell 5 (by omega)
    have htt := (h4.r.tk (t := t) ht).cell 5 (by omega)
    have htt' : w4.cell? ⟨g.tb t, 5, none⟩ = some (.int .i64 u) := by
      rw [htt]
      show some (Value.int .i64 ((s.setTl t u).T t).till) = _
      unfold Pl.setTl
      rw [setT_at]; rfl
    exact later1L (g.tb a) w.heap.size (g.tb t) ((s.setTl t u).T a).till u w4 hb4 hta htt'
  · intro w2 w3 hm hg
    rw [hu] at hm
    have h2 := (tmdR h ht hm).kept hg
    have hpe : (if fst nm ((s.q 3 0).map g.tb) < 0 then ((s.q 3 0).length : Int) else fst nm ((s.q 3 0).map g.tb)) = ((plc (s.setTl t u) u : Nat) : Int) := by
      have := fst_place nm ((s.q 3 0).map g.tb)
      rw [List.length_map, hpl] at this
      exact this
    rw [hpe]
    refine (insertR (x := 3) (y := 0) h2.r hW2 hl2 ht (by omega) hwh2 (by unfold plc; exact List.findIdx_le_length)).mono ?_
    rintro e w' ⟨rfl, r, h3⟩
    obtain ⟨_, _, _, hbox⟩ := hm
    refine ⟨rfl, ⟨r, h2.trans h3⟩, ?_⟩
    have hb3 : w3.heap[w.heap.size]? = some (.cells #[P0 (g.tb t)] 155 (0, 0)) := (hg.block w.heap.size (heap_lt hbox) (by intro e; cases e)).trans hbox
    refine (h3.other hb3 (fun hmn => ?_)).1
    have := h.lt (mine_setTl hmn)
    omega
theorem i17 {p : Prm} {s : Pl} {g : Geo} {w : World} {t op a b c : Nat} (h : Rep p s g w) (hP : PW p) (hI : In s t) (ha : a < p.rg (topF s t).f) (hW : LW s) (hwh : (s.T t).wh = none) (c0 : 0 ≤ s.clk) (c1 : s.clk ≤ 9223372036854775807) :
    Calls Tryz.prog 167 #[stpV p s g t (op, a, b, c), P0 (p.ac + 20), P0 (p.ac + 21)] w fun e w' => ∃ why : Int, e = .returned (.int .i64 why) ∧ why = (sleepS s t a).1 ∧ ∃ g', Tr p s g w (sleepS s t a).2 g' w' := by
  have h1 := hP.box h.fix (j := 20) (by omega) rfl
  have h2 := hP.box h.fix (j := 21) (by omega) rfl
  refine takes98_112 op a b c _ _ _ (p.ac + 20) (p.ac + 21) ((topF s t).R a) (fun why w' => why = (sleepS s t a).1 ∧ ∃ g', Tr p s g w (sleepS s t a).2 g' w') w h1.1 h2.1 (In.a h hI op a b c _ _ ha) (fun h0 w1 hg1 => ?_) (fun h0 w1 hg1 => ?_)
  · have hS : sleepS s t a = (0, s.slept t (B.aft s.clk ((topF s t).R a).2)) := by unfold sleepS; rw [if_pos h0]
    refine (ssleepL op a b c (g.fb t (topN s t)) (g.tb t) p.eb ((topF s t).R a).2 (fun w' => ∃ g', Tr p s g w (sleepS s t a).2 g' w') w1 (fun w2 hg2 => ?_)).mono ?_
    · refine (sleepR ((topF s t).R a).2 (h.kept (grown_trans hg1 hg2)) hW hI.ht (by rw [hwh]; intro e; cases e) c0 c1).mono ?_
      rintro e w' ⟨rfl, r, h3⟩
      exact ⟨rfl, g.at 3 0 r, by rw [hS]; exact h3.ahead (grown_trans hg1 hg2)⟩
    · rintro e w' ⟨rfl, h3⟩
      exact ⟨0, rfl, by rw [hS], h3⟩
  · unfold sleepS
    rw [if_neg h0]
    exact ⟨rfl, g, (Tr.refl h).kept hg1⟩
end Go.Proofs.YtnjiinbhbjpfkaaGreatDoor.F
namespace Go.Proofs.YtnjiinbhbjpfkaaGreatDoor
open Go.RowKit
set_option maxRecDepth 100000 in
theorem socket_no (eb : Nat) (z : Int) (w : World) (h : z < 0 ∨ 4 ≤ z) : Calls Tryz.prog 130 #[P0 eb, .int .i64 z] w fun e w' => e = .returned (.tuple #[.pointer none, .bool false]) ∧ w' = w := by
  rcases h with h | h
  · go_enter Tryz.func130, Tryz.ntmps130
    go_wp2_with fail
    go_ret2
    exact ⟨rfl, rfl⟩
  · have h0 : ¬ z < 0 := by omega
    go_enter Tryz.func130, Tryz.ntmps130
    go_wp2_with fail
    go_ret2
    exact ⟨rfl, rfl⟩
set_option maxRecDepth 100000 in
theorem socket_yes (eb k : Nat) (w : World) (h : k < 4) : Calls Tryz.prog 130 #[P0 eb, .int .i64 (k : Int)] w fun e w' => e = .returned (.tuple #[Pt eb (34 + k * 2), .bool true]) ∧ w' = w := by
  have h0 : ¬ (k : Int) < 0 := by omega
  have h4 : (k : Int) < 4 := by omega
  go_enter Tryz.func130, Tryz.ntmps130
  go_wp2_with fail
  go_ret2
  exact ⟨rfl, rfl⟩
end Go.Proofs.YtnjiinbhbjpfkaaGreatDoor
namespace Go.Proofs.YtnjiinbhbjpfkaaGreatDoor.F
open Go.RowKit
def Pl.setB (s : Pl) (k : Nat) (l : List Nat) : Pl := { s with byt := fun i => if i = k then l else s.byt i }
theorem rows_byt {s : Pl} {g : Geo} (k : Nat) (l : List Nat) (a b : Nat) (h : ¬ (a = 10 ∧ b = k)) : rlen (s.setB k l) a b = rlen s a b ∧ rcon (s.setB k l) g a b = rcon s g a b := by
  by_cases e : a = 10
  · have eb : b ≠ k := fun eb => h ⟨e, eb⟩
    subst e
    have hb : (s.setB k l).byt b = s.byt b := if_neg eb
    constructor
    · show ((s.setB k l).byt b).length = _; rw [hb]; rfl
    · show bytL ((s.setB k l).byt b) = _; rw [hb]; rfl
  · exact ⟨by unfold rlen Pl.setB; simp only [if_neg e], by unfold rcon Pl.setB; simp only [if_neg e]⟩
theorem takeR {p : Prm} {s : Pl} {g : Geo} {w : World} {k x : Nat} {bs : List Nat} (h : Rep p s g w) (hk : k < 4) (hb : s.byt k = x :: bs) (hn : bs.length ≤ 1000) :
    Calls Tryz.prog 174 #[Pt p.eb (34 + k * 2)] w fun e w' => e = .returned (.tuple #[.int .u8 (x : Int), .bool true]) ∧ Tr p s g w (s.setB k bs) g w' := by
  have hv : vld s 10 k 0 = true := vld_4 (by omega) hk
  have hr := h.row (x := 10) (y := k) (by unfold rowx; omega) hv
  have hl : rlen s 10 k = bs.length + 1 := by show (s.byt k).length = _; rw [hb]; rfl
  have hc : rcon s g 10 k = bytL (x :: bs) := by show bytL (s.byt k) = _; rw [hb]
  obtain ⟨gb, cc, he⟩ := row_form hr (by rw [hl]; omega)
  have hro : g.ro 10 k = (some ⟨gb, 0, none⟩, cc) := by
    unfold sl at he
    injection he with a b c
    exact Prod.ext a c
  have hI : engI (34 + k * 2) = (10, k) ∧ 29 ≤ 34 + k * 2 ∧ 34 + k * 2 < 44 ∧ 34 + k * 2 ≠ 42 := by
    have : k = 0 ∨ k = 1 ∨ k = 2 ∨ k = 3 := by omega
    rcases this with rfl | rfl | rfl | rfl <;> decide
  have hE : engE p s g (34 + k * 2) = .slice (some ⟨gb, 0, none⟩) (bs.length + 1) cc := by
    unfold engE
    rw [if_neg (by omega), if_neg (by omega), if_neg (by omega), hI.1]
    show sl s g 10 k = _
    rw [he, hl]
  rw [he, hl, hc] at hr
  have hr' : w.ownsRow 0 5 1 (.slice (some ⟨gb, 0, none⟩) (bs.length + 1) cc) (bs.length + 1) (bytL (x :: bs)) := hr
  refine (take_some p.eb (34 + k * 2) gb cc 44 x 144 bs (engE p s g) w h.E (by omega) hE hr' hn (own_ne hr' h.E (by decide) gb rfl)).mono ?_
  rintro e w' ⟨rfl, k1, k2, k3⟩
  have hbk : (s.setB k bs).byt k = bs := if_pos rfl
  have hl' : rlen (s.setB k bs) 10 k = bs.length := by show ((s.setB k bs).byt k).length = _; rw [hbk]
  have hc' : rcon (s.setB k bs) g 10 k = bytL bs := by show bytL ((s.setB k bs).byt k) = _; rw [hbk]
  have key := h.engrow (s' := s.setB k bs) (r := g.ro 10 k) (j0 := 34 + k * 2) (w' := w') (by omega) hv hI rfl rfl rfl rfl rfl rfl rfl (fun a b _ _ e => rows_byt k bs a b e) (by rw [hl', hro]; exact k1) (by rw [hl', hc', hro]; exact k2) (k3.mono (fun i hi _ => hi.imp id (fun e => by rw [hro, e]; rfl))) (fun i hi => Or.inl hi)
  rw [at_self] at key
  exact ⟨rfl, key⟩
theorem mine_setB {p : Prm} {s : Pl} {g : Geo} {k : Nat} {l : List Nat} {i : Nat} (h : Mine p (s.setB k l) g i) : Mine p s g i := by
  obtain ⟨x, y, z, hb⟩ := h
  refine ⟨x, y, z, ?_⟩
  by_cases hv : vld s x y z = true
  · rw [ob_v (show vld (s.setB k l) x y z = true from hv)] at hb
    rw [ob_v hv]
    by_cases hx : rowx x
    · rw [obk_row hx] at hb ⊢
      exact hb
    · have hle := vld_le hv
      have hc : x = 0 ∨ x = 1 ∨ x = 11 ∨ x = 13 ∨ x = 14 ∨ x = 15 ∨ x = 16 ∨ x = 17 ∨ x = 18 := by unfold rowx at hx; omega
      rcases hc with rfl | rfl | rfl | rfl | rfl | rfl | rfl | rfl | rfl <;> exact hb
  · rw [ob_n (show ¬ vld (s.setB k l) x y z = true from hv)] at hb
    exact hb.elim
def readS (s : Pl) (t : Nat) (k : Nat × Nat × Nat × Nat) : Int × Pl :=
  if ((topF s t).R k.2.2.1).1 = 0 then
    (if 0 ≤ ((topF s t).R k.2.2.1).2 ∧ ((topF s t).R k.2.2.1).2 < 4 then (0, match s.byt ((topF s t).R k.2.2.1).2.toNat with | x :: bs => (s.setB ((topF s t).R k.2.2.1).2.toNat bs).setF t (topN s t) ((topF s t).set k.2.1 (0, (x : Int))) | [] => s.wait 4 ((topF s t).R k.2.2.1).2.toNat t k) else (8, s)) else (1, s)
theorem i21 {p : Prm} {s : Pl} {g : Geo} {w : World} {t op a b c : Nat} (h : Rep p s g w) (hP : PW p) (hI : In s t) (ha : a < p.rg (topF s t).f) (hb : b < p.rg (topF s t).f) (hW : LW s) (hwh : (s.T t).wh = none) (hby : ∀ k, (s.byt k).length ≤ 1000 ∧ ∀ x, x ∈ s.byt k → x < 256) :
    Calls Tryz.prog 167 #[stpV p s g t (op, a, b, c), P0 (p.ac + 28), P0 (p.ac + 29)] w fun e w' => ∃ why : Int, e = .returned (.int .i64 why) ∧ why = (readS s t (op, a, b, c)).1 ∧ ∃ g', Tr p s g w (readS s t (op, a, b, c)).2 g' w' := by
  have h1 := hP.box h.fix (j := 28) (by omega) rfl
  have h2 := hP.box h.fix (j := 29) (by omega) rfl
  refine takes86_116 op a b c _ _ _ (p.ac + 28) (p.ac + 29) ((topF s t).R b) (fun why w' => why = (readS s t (op, a, b, c)).1 ∧ ∃ g', Tr p s g w (readS s t (op, a, b, c)).2 g' w') w h1.1 h2.1 (In.b h hI op a b c _ _ hb) (fun h0 w1 hg1 => ?_) (fun h0 w1 hg1 => ?_)
  · generalize hz : ((topF s t).R b).2 = z
    have hS : readS s t (op, a, b, c) = (if 0 ≤ z ∧ z < 4 then (0, match s.byt z.toNat with | x :: bs => (s.setB z.toNat bs).setF t (topN s t) ((topF s t).set a (0, (x : Int))) | [] => s.wait 4 z.toNat t (op, a, b, c)) else (8, s)) := by unfold readS; rw [if_pos h0, hz]
    by_cases hk : 0 ≤ z ∧ z < 4
    · obtain ⟨k, rfl⟩ : ∃ k : Nat, z = (k : Int) := ⟨z.toNat, by omega⟩
      have hk4 : k < 4 := by omega
      rw [if_pos hk, Int.toNat_natCast] at hS
      cases hbs : s.byt k with
      | cons x bs =>
        rw [hbs] at hS
        have hl := (hby k).1
        rw [hbs] at hl
        refine (read_byte op a b c (g.fb t (topN s t)) (g.tb t) p.eb (34 + k * 2) x (k : Int) ((hby k).2 x (by rw [hbs]; simp)) (fun w' => Tr p s g w (s.setB k bs) g w') (fun w' => ∃ g', Tr p s g w (readS s t (op, a, b, c)).2 g' w') w1 (fun w2 _ => socket_yes p.eb k w2 hk4) (fun w2 hg2 => ?_) (fun w2 w3 hR hg3 => ?_)).mono ?_
        · refine (takeR (h.kept (grown_trans hg1 hg2)) hk4 hbs (by simp at hl; omega)).mono ?_
          rintro e w' ⟨rfl, h3⟩
          exact ⟨rfl, h3.ahead (grown_trans hg1 hg2), h3.between (h.kept hg1)⟩
        · refine (setR (s := s.setB k bs) (t := t) (i := topN s t) (a := a) op b c (g.tb t) p.eb (0, (x : Int)) (hR.r.kept hg3) hI.ht hI.hi ha).mono ?_
          rintro e w' ⟨rfl, h3⟩
          refine ⟨rfl, ⟨g, by rw [hS]; exact (hR.kept hg3).trans h3⟩, fun i hi1 hi2 => h3.o.same hi2 (fun hm => ?_)⟩
          have := (h.kept hg1).lt (mine_setB hm)
          omega
        · rintro e w' ⟨rfl, h3⟩
          exact ⟨0, rfl, by rw [hS], h3⟩
      | nil =>
        rw [hbs] at hS
        have ho : Pt p.eb (34 + k * 2 + 1) = Pt (lnB p g 4 k) (lnO 4 k) := by show Pt p.eb (34 + k * 2 + 1) = Pt p.eb (35 + 2 * k); rw [show 34 + k * 2 + 1 = 35 + 2 * k by omega]
        refine (read_wait op a b c (g.fb t (topN s t)) (g.tb t) p.eb (34 + k * 2) (k : Int) (fun w' => ∃ g', Tr p s g w (readS s t (op, a, b, c)).2 g' w') w1 (h.kept hg1).E.lt (fun w2 _ => socket_yes p.eb k w2 hk4) (fun w2 hg2 => ?_) (fun w2 hg2 => ?_)).mono ?_
        · have hE := (h.kept (grown_trans hg1 hg2)).E.cell (34 + k * 2) (by omega)
          have hI2 : engI (34 + k * 2) = (10, k) := by
            have : k = 0 ∨ k = 1 ∨ k = 2 ∨ k = 3 := by omega
            rcases this with rfl | rfl | rfl | rfl <;> decide
          have hE2 : engE p s g (34 + k * 2) = .slice (g.ro 10 k).1 0 (g.ro 10 k).2 := by
            unfold engE
            rw [if_neg (by omega), if_neg (by omega), if_neg (by omega), hI2]
            show Value.slice _ (s.byt k).length _ = _
            rw [hbs]; rfl
          rw [hE2] at hE
          exact take_none p.eb (34 + k * 2) (g.ro 10 k).2 (g.ro 10 k).1 w2 hE
        · rw [ho]
          refine (waitR (x := 4) (y := k) (t := t) (op, a, b, c) (h.kept (grown_trans hg1 hg2)) hW hI.ht (Or.inr (Or.inr (Or.inl ⟨rfl, hk4⟩))) (by omega) hwh).mono ?_
          rintro e w' ⟨rfl, g', h3⟩
          exact ⟨rfl, g', by rw [hS]; exact h3.ahead (grown_trans hg1 hg2)⟩
        · rintro e w' ⟨rfl, h3⟩
          exact ⟨0, rfl, by rw [hS], h3⟩
    · rw [if_neg hk] at hS
      refine (read_no op a b c (g.fb t (topN s t)) (g.tb t) p.eb z w1 (fun w2 _ => socket_no p.eb z w2 (by omega))).mono ?_
      rintro e w' ⟨rfl, hg⟩
      exact ⟨8, rfl, by rw [hS], g, by rw [hS]; exact (Tr.refl h).kept (grown_trans hg1 hg)⟩
  · unfold readS
    rw [if_neg h0]
    exact ⟨rfl, g, (Tr.refl h).kept hg1⟩
end Go.Proofs.YtnjiinbhbjpfkaaGreatDoor.F
namespace Go.Proofs.YtnjiinbhbjpfkaaGreatDoor.B
def rgL (L : List V) : Nat → V := fun i => L.getD i (0, 0)
def stL (L : List V) (M : Nat → List V) : St := (0, rgL L, M)
def HeldL (kd : Kd) (n : Nat) (L : List V) (M : Nat → List V) : Prop := Held kd L.length n (stL L M)
def RchL (L : List V) (M : Nat → List V) (p : Nat) : Prop := Reach L.length (stL L M) p
theorem rgL_mem {L : List V} {i : Nat} (h : i < L.length) : rgL L i ∈ L := by
  unfold rgL
  rw [List.getD_eq_getElem?_getD, List.getElem?_eq_getElem h]
  exact List.getElem_mem h
theorem mem_rgL {L : List V} {v : V} (h : v ∈ L) : ∃ i, i < L.length ∧ rgL L i = v := by
  obtain ⟨i, hi, e⟩ := List.getElem_of_mem h
  refine ⟨i, hi, ?_⟩
  unfold rgL
  rw [List.getD_eq_getElem?_getD, List.getElem?_eq_getElem hi, ← e]
  rfl
theorem rchL_mem {L : List V} {M : Nat → List V} {v : V} (h : v ∈ L) (h0 : v.1 ≠ 0) : RchL L M v.1 := by
  obtain ⟨i, hi, rfl⟩ := mem_rgL h
  exact reach_reg (s := stL L M) i hi h0
theorem rchL_slot {L : List V} {M : Nat → List V} {k : Nat} (hk : RchL L M k) {v : V} (hv : v ∈ M k) (h0 : v.1 ≠ 0) : RchL L M v.1 := reach_slot (s := stL L M) hk hv h0
def Got (L : List V) (M : Nat → List V) (v : V) : Prop := v.1 = 0 ∨ v ∈ L ∨ ∃ p, RchL L M p ∧ v ∈ M p
section
variable {kd : Kd} {n : Nat} {L L' : List V} {M : Nat → List V} {v : V}
theorem Got.mem (h : v ∈ L) : Got L M v := Or.inr (Or.inl h)
theorem Got.rch (h : Got L M v) (h0 : v.1 ≠ 0) : RchL L M v.1 := by
  rcases h with h | h | ⟨p, hp, h⟩
  · exact absurd h h0
  · exact rchL_mem h h0
  · exact rchL_slot hp h h0
theorem Got.vok (h : Got L M v) (hH : HeldL kd n L M) : Vok kd.on n v := by
  rcases h with h | h | ⟨p, hp, h⟩
  · exact Or.inl h
  · obtain ⟨i, hi, rfl⟩ := mem_rgL h
    exact hH.h1 i hi
  · exact hH.h2 p hp v h
theorem rchL_sub (h : ∀ v, v ∈ L' → Got L M v) {p : Nat} (hp : RchL L' M p) : RchL L M p :=
  hp (RchL L M) (fun _ hi h0 => (h _ (rgL_mem hi)).rch h0) (fun _ hk _ hv h0 => rchL_slot hk hv h0)
theorem heldL_sub (hH : HeldL kd n L M) (h : ∀ v, v ∈ L' → Got L M v) : HeldL kd n L' M :=
  held_sub (s := stL L M) (s' := stL L' M) hH rfl (fun _ hp => rchL_sub h hp) (fun _ hi => (h _ (rgL_mem hi)).vok hH)
theorem heldL_put (hH : HeldL kd n L M) {p : Nat} (i : Nat) (hp : RchL L M p) (hv : Got L M v) : HeldL (told kd ((M p).getD i (0, 0))) n L (lay M p ((M p).set i v)) :=
  held_put (s := stL L M) hH 0 p i v hp (hv.vok hH) hv.rch
theorem rchL_kd (hH : HeldL kd n L M) {p : Nat} (hp : RchL L M p) : kd.on p = true ∧ 1 ≤ p ∧ p ≤ n := reach_kd (s := stL L M) hH hp
theorem rchL_new {p : Nat} {l : List V} (hl : ∀ v, v ∈ l → Got L M v) (hL : ∀ v, v ∈ L' → v = (p, 0) ∨ Got L M v) {k : Nat} (hk : RchL L' (lay M p l) k) : k = p ∨ RchL L M k := by
  refine hk (fun k => k = p ∨ RchL L M k) (fun i hi h0 => ?_) (fun k hk u hu h0 => ?_)
  · rcases hL _ (rgL_mem hi) with h | h
    · left
      show (rgL L' i).1 = p
      rw [h]
    · exact Or.inr (h.rch h0)
  · have hu' : u ∈ lay M p l k := hu
    by_cases e : k = p
    · subst e
      rw [lay_at] at hu'
      exact Or.inr ((hl u hu').rch h0)
    · rw [lay_off _ _ _ _ e] at hu'
      exact Or.inr (rchL_slot (hk.resolve_left e) hu' h0)
theorem heldL_new (hH : HeldL kd n L M) {p : Nat} {l : List V} (h1 : 1 ≤ p) (h2 : p ≤ n) (h3 : kd.on p = false) (hl : ∀ v, v ∈ l → Got L M v) (hL : ∀ v, v ∈ L' → v = (p, 0) ∨ Got L M v) : HeldL (laid kd p) n L' (lay M p l) := by
  refine ⟨fun i hi => ?_, fun k hk u hu => ?_, fun c hc => ?_⟩
  · show Vok (mark kd.on p) n (rgL L' i)
    rcases hL _ (rgL_mem hi) with h | h
    · rw [h]; exact Or.inr ⟨h1, h2, mark_at _ _, rfl⟩
    · exact (h.vok hH).up (fun k => mark_up p)
  · have hu' : u ∈ lay M p l k := hu
    show Vok (mark kd.on p) n u
    by_cases e : k = p
    · subst e
      rw [lay_at] at hu'
      exact ((hl u hu').vok hH).up (fun j => mark_up k)
    · rw [lay_off _ _ _ _ e] at hu'
      rcases rchL_new hl hL hk with h | h
      · exact absurd h e
      · exact (hH.h2 k h u hu').up (fun j => mark_up p)
  · have hc' : kd.cy.map (fun c : Cy => (⟨mark c.m p, c.st, c.nx⟩ : Cy)) = some c := hc
    rw [Option.map_eq_some_iff] at hc'
    obtain ⟨c0, hc0, rfl⟩ := hc'
    obtain ⟨hx, T, hT, hs⟩ := hH.h3 c0 hc0
    have hs : Snap kd.on n M c0 T := hs
    have hn : ∀ k, T k → k ≠ p := by
      rintro k hk rfl
      have := (hs.ha k hk).2.2
      rw [h3] at this; cases this
    refine ⟨hx, fun k => k = p ∨ T k, fun k hk => (rchL_new hl hL hk).imp id (hT k), fun k hk => ?_, fun k hk u hu => ?_, fun k hk => ?_, fun k hk => mark_up _ (hs.hd k hk), hs.he, fun k hk => ?_, hs.hg, hs.hh, fun k a1 a2 a3 => ?_⟩
    · rcases hk with rfl | hk
      · exact ⟨h1, h2, mark_at _ _⟩
      · have := hs.ha k hk
        exact ⟨this.1, this.2.1, mark_up _ this.2.2⟩
    · have hu' : u ∈ lay M p l k := hu
      rcases hk with rfl | hk
      · rw [lay_at] at hu'
        exact ⟨((hl u hu').vok hH).up (fun j => mark_up k), fun h0 => Or.inr (hT _ ((hl u hu').rch h0))⟩
      · rw [lay_off _ _ _ _ (hn k hk)] at hu'
        have := hs.hb k hk u hu'
        exact ⟨this.1.up (fun k => mark_up p), fun h0 => Or.inr (this.2 h0)⟩
    · by_cases e : k = p
      · exact Or.inl e
      · have hk' : mark c0.m p k = true := hk
        rw [mark_off _ _ _ e] at hk'
        exact Or.inr (hs.hc k hk')
    · intro S s1 s2 _ s4
      have s2' : ∀ k, k ∈ c0.st → ∀ v, v ∈ lay M p l k → v.1 ≠ 0 → S v.1 := s2
      have s4' : ∀ k, mark c0.m p k = false → S k → ∀ v, v ∈ lay M p l k → v.1 ≠ 0 → S v.1 := s4
      rcases hk with rfl | hk
      · exact s1 k (mark_at _ _)
      · refine (hs.hf k hk (fun k => S k ∧ T k) (fun k hk => ⟨s1 k (mark_up _ hk), hs.hc k hk⟩) (fun k hk u hu h0 => ?_) (fun v hv => by simp at hv) (fun k hm hk u hu h0 => ?_)).1
        · have hkT := hs.hc k (hs.hd k hk)
          exact ⟨s2' k hk u (by rw [lay_off _ _ _ _ (hn k hkT)]; exact hu) h0, (hs.hb k hkT u hu).2 h0⟩
        · have hkp := hn k hk.2
          exact ⟨s4' k (by rw [mark_off _ _ _ hkp]; exact hm) hk.1 u (by rw [lay_off _ _ _ _ hkp]; exact hu) h0, (hs.hb k hk.2 u hu).2 h0⟩
    · by_cases e : k = p
      · subst e; exact mark_at _ _
      · have a3' : mark kd.on p k = true := a3
        rw [mark_off _ _ _ e] at a3'
        exact mark_up _ (hs.hi k a1 a2 a3')
end
end Go.Proofs.YtnjiinbhbjpfkaaGreatDoor.B
namespace Go.Proofs.YtnjiinbhbjpfkaaGreatDoor.F
open Go.RowKit
def Root (p : Prm) (s : Pl) (v : B.V) : Prop := (∃ u i a, u ∈ s.lv ∧ i < (s.T u).fr.length ∧ a < p.rg (frAt s u i).f ∧ (frAt s u i).R a = v) ∨ v ∈ s.kp
theorem mem_rootsL {p : Prm} {s : Pl} {v : B.V} : v ∈ rootsL p s ↔ Root p s v := by
  unfold rootsL lvR tskR frsR Root
  simp only [List.mem_append, List.mem_flatMap, List.mem_range, B.regs_mem]
  constructor
  · rintro (⟨u, hu, i, hi, a, ha, e⟩ | h)
    · exact Or.inl ⟨u, i, a, hu, hi, ha, e⟩
    · exact Or.inr h
  · rintro (⟨u, i, a, hu, hi, ha, e⟩ | h)
    · exact Or.inl ⟨u, hu, i, hi, a, ha, e⟩
    · exact Or.inr h
def PGot (p : Prm) (s : Pl) (v : B.V) : Prop := B.Got (rootsL p s) s.M v
theorem PGot.num {p : Prm} {s : Pl} (x : Int) : PGot p s (0, x) := Or.inl rfl
theorem PGot.root {p : Prm} {s : Pl} {v : B.V} (h : Root p s v) : PGot p s v := B.Got.mem (mem_rootsL.2 h)
structure FW (p : Prm) (l : List Frm) : Prop where
  n1 : l ≠ []
  n2 : l.length ≤ 20
  f : ∀ i, i < l.length → (l.getD i fr0).f < p.nf ∧ (l.getD i fr0).nx ≤ p.len (l.getD i fr0).f
  b : ∀ i, i + 1 < l.length → (l.getD (i + 1) fr0).bk.2.1 < p.rg (l.getD i fr0).f
structure OkX (p : Prm) (s : Pl) (X : Nat → Prop) : Prop where
  lw : LW s
  ww : WW p s
  nd : s.lv.Nodup
  lt : ∀ u, u ∈ s.lv → isT s u
  ql : ∀ x y, lnok s x y → ∀ t, t ∈ s.q x y → t ∈ s.lv
  lf : ∀ u, isT s u → (s.T u).lf ≠ none → ∃ x y, (s.T u).wh = some (x, y) ∧ (x = 4 ∨ x = 5)
  rn : ∀ u, isT s u → (s.T u).run = true → (s.T u).wh = none ∧ u ∈ s.lv
  ol : s.out.length = s.nt
  ok : ∀ v, v ∈ s.out → v.1 = 0 ∨ v ∈ s.kp
  kn : s.kp.Nodup
  kz : ∀ v, v ∈ s.kp → v.1 ≠ 0
  fw : ∀ u, u ∈ s.lv → X u → FW p (s.T u).fr
  hl : B.HeldL s.kd p.n (rootsL p s) s.M
  fc : ∀ k, 1 ≤ k → k ≤ p.n → s.kd.on k = true → s.ck k ≤ p.nf
  bt : ∀ k, (s.byt k).length ≤ 1000 ∧ ∀ x, x ∈ s.byt k → x < 256
  c0 : 0 ≤ s.clk
  c1 : s.clk ≤ 9223372036854775807
abbrev Ok (p : Prm) (s : Pl) : Prop := OkX p s (fun _ => True)
theorem OkX.weak {p : Prm} {s : Pl} {X Y : Nat → Prop} (h : OkX p s X) (hX : ∀ u, u ∈ s.lv → Y u → X u) : OkX p s Y := { h with fw := fun u hu hy => h.fw u hu (hX u hu hy) }
section
variable {p : Prm} {s : Pl} {X : Nat → Prop} (h : OkX p s X)
include h
theorem OkX.vok {v : B.V} (hv : PGot p s v) : B.Vok s.kd.on p.n v := B.Got.vok hv h.hl
theorem OkX.kl : s.kp.length ≤ p.n := by
  have hv : ∀ v, v ∈ s.kp → 1 ≤ v.1 ∧ v.1 ≤ p.n ∧ v.2 = 0 := fun v hv => by
    rcases h.vok (PGot.root (Or.inr hv)) with h1 | h1
    · exact absurd h1 (h.kz v hv)
    · exact ⟨h1.1, h1.2.1, h1.2.2.2⟩
  have hn : (s.kp.map (·.1)).Nodup := by
    have key : ∀ l : List B.V, l.Nodup → (∀ v, v ∈ l → v.2 = 0) → (l.map (·.1)).Nodup := by
      intro l
      induction l with
      | nil => intro _ _; simp
      | cons a l ih =>
        intro hn hz
        rw [List.nodup_cons] at hn
        rw [List.map_cons, List.nodup_cons]
        refine ⟨fun hm => ?_, ih hn.2 (fun v hv => hz v (by simp [hv]))⟩
        obtain ⟨b, hb, e⟩ := List.mem_map.1 hm
        have : b = a := Prod.ext e ((hz b (by simp [hb])).trans (hz a (by simp)).symm)
        exact hn.1 (this ▸ hb)
    exact key s.kp h.kn (fun v h => (hv v h).2.2)
  have := nodup_len p.n _ hn (fun t ht => by
    obtain ⟨v, hv', rfl⟩ := List.mem_map.1 ht
    exact ⟨(hv v hv').1, (hv v hv').2.1⟩)
  rw [List.length_map] at this
  exact this
theorem OkX.ll : s.lv.length ≤ s.nt := nodup_len s.nt _ h.nd (fun t ht => h.lt t ht)
end
theorem OkX.same {p : Prm} {s s' : Pl} {X : Nat → Prop} (h : OkX p s X) (e1 : s'.nt = s.nt) (e2 : s'.T = s.T) (e3 : s'.q = s.q) (e4 : s'.lv = s.lv) (e5 : s'.out = s.out) (e6 : s'.kp = s.kp) (e7 : s'.byt = s.byt) (e8 : s'.clk = s.clk) (e9 : s'.kd = s.kd) (e10 : s'.M = s.M) (e11 : s'.ck = s.ck) : OkX p s' X := by
  obtain ⟨a1, a2, a3, a4, a5, a6, a7, a8, a9, a10, a11, a12, a13⟩ := s
  obtain ⟨b1, b2, b3, b4, b5, b6, b7, b8, b9, b10, b11, b12, b13⟩ := s'
  simp only at e1 e2 e3 e4 e5 e6 e7 e8 e9 e10 e11
  subst e1 e2 e3 e4 e5 e6 e7 e8 e9 e10 e11
  exact ⟨⟨h.lw.a, h.lw.b, h.lw.c, h.lw.d⟩, h.ww, h.nd, h.lt, h.ql, h.lf, h.rn, h.ol, h.ok, h.kn, h.kz, h.fw, h.hl, h.fc, h.bt, h.c0, h.c1⟩
end Go.Proofs.YtnjiinbhbjpfkaaGreatDoor.F
