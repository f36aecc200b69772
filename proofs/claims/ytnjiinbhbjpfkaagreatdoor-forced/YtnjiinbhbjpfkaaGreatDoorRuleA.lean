/-
  The laws' own first look: a program that emits 7 does so.
-/
import Derived.Test.YtnjiinbhbjpfkaaGreatDoorRoomI
import Derived.Test.YtnjiinbhbjpfkaaGreatDoorRoomA
import Derived.Test.YtnjiinbhbjpfkaaGreatDoorCards
import Derived.Test.YtnjiinbhbjpfkaaGreatDoorTie
import Derived.Test.YtnjiinbhbjpfkaaGreatDoorRoomD
import Derived.Test.YtnjiinbhbjpfkaaGreatDoorRoomC
import Derived.ProofKit
import Derived.LaidMore
import Derived.OpenShut
import Derived.Stop.Joined
import Derived.Lib.SmallJoins
namespace Go.Proofs.YtnjiinbhbjpfkaaGreatDoor
open Go.RowKit

namespace B
def emC : List In := [(0, 0, 0, 7), (20, 0, 0, 0)]
def emI (j : Nat) (s : St) : Prop := s.1 = j ∧ (j ≠ 0 → s.2.1 0 = (0, 7))
def emE (j : Nat) : List Ev := if j = 1 then [(1, 7)] else if j = 2 then [(2, 0)] else []
theorem em_step (j : Nat) (s s' : St) (r : Nat) (ev : List Ev) (hj : j < 2) (hI : emI j s) (h : Step emC 2 1 s s' r ev) : r = 0 ∧ ev = emE j ∧ emI (j + 1) s' := by
  obtain ⟨nx, R, M⟩ := s
  obtain ⟨rfl, h0⟩ := hI
  match nx, hj, h, h0 with
  | 0, _, h, _ =>
    obtain ⟨rfl, rfl, rfl⟩ := (show Does 2 1 (0, 0, 0, 7) (0, R, M) s' r ev from h)
    exact ⟨rfl, rfl, rfl, fun _ => rfl⟩
  | 1, _, h, h0 =>
    have h' : Does 2 1 (20, 0, 0, 0) (1, R, M) s' r ev := h
    simp only [Does] at h'
    have h7 : R 0 = (0, 7) := h0 (by simp)
    rw [if_pos (by rw [h7])] at h'
    obtain ⟨rfl, rfl, rfl⟩ := h'
    exact ⟨rfl, by rw [h7]; rfl, rfl, fun _ => h7⟩
theorem em_last (s s' : St) (r : Nat) (ev : List Ev) (hI : emI 2 s) (h : Step emC 2 1 s s' r ev) : r = 1 ∧ ev = emE 2 := by
  obtain ⟨nx, R, M⟩ := s
  obtain ⟨h1, _⟩ := hI
  simp only at h1
  subst h1
  exact h
theorem em_runs {s' : St} {r : Nat} {ev : List Ev} (h : Runs emC 2 1 9 (0, fun _ => (0, 0), fun _ => []) s' r ev) : r = 1 ∧ ev = [(1, 7), (2, 0)] :=
  runs_off (I := emI) (E := emE) (B := 2) (R := 1) em_step (by omega) em_last 9 0 _ s' r ev (by omega) (by omega) ⟨rfl, fun h => absurd rfl h⟩ h
end B

theorem full_list (l : List Nat) (j : Nat) (hj : j < l.length) : (u8s l).toArray[j]? = some (.int .u8 (l.getD j 0 : Nat)) := by
  simp [u8s, hj, List.getD]

theorem codeL_list (l : List Nat) (k : Nat) (h : l.length = 4 * k) : codeL (fun j => l.getD j 0) k = l := by
  unfold codeL
  apply List.ext_getElem?
  intro i
  by_cases hi : i < 4 * k
  · have hi' : i < l.length := by omega
    simp [hi, List.getD, hi']
  · rw [List.getElem?_eq_none (by simp; omega), List.getElem?_eq_none (by omega)]
theorem list_lt (l : List Nat) (h : ∀ y, y ∈ l → y < 256) (j : Nat) : l.getD j 0 < 256 := by
  by_cases hj : j < l.length
  · have : l.getD j 0 = l[j] := by simp [List.getD, hj]
    rw [this]; exact h _ (List.getElem_mem hj)
  · have : l.getD j 0 = 0 := by simp [List.getD, hj]
    omega
theorem okEm : okCode 2 B.emC := by unfold okCode; decide
set_option maxRecDepth 100000 in
set_option maxHeartbeats 1000000 in
theorem emits_any {Good : World → Prop} {Mach : MachT} (hI : Iface Good Mach) (w : World) (hG : Good w) : Calls Tryz.prog 20 #[] w fun e w' => e = .returned (.bool true) ∧ Below w.heap.size w w' := by
  obtain ⟨hL, hT, _, _, hK, hGd⟩ := hI
  have HK : Hid (KeepOk Mach) := hK
  have HL : Hid (LoadOk Good Mach) := hL
  have HT : Hid (TurnOk Mach) := hT
  have HGd : Hid (GoodOk Good) := hGd
  have HG : Hid (Good w) := hG
  clear hL hT hGd hG hK
  go_enter Tryz.func20, Tryz.ntmps20
  go_wp2_with fail
  refine (function_any 2 2 w.heap.size 2 37 8 (fun j => ([0, 0, 0, 7, 20, 0, 0, 0] : List Nat).getD j 0) _ (by omega) (by omega) (by decide) ⟨_, heap_alloc_new w _, rfl, fun j hj => full_list [0, 0, 0, 7, 20, 0, 0, 0] j hj⟩ (by omega)).mono ?_
  rintro e w1 ⟨rfl, hB1⟩
  have KB1 : Hid (Below w.heap.size w w1) := ((Below.refl _ _).alloc (Nat.le_refl _) _).trans (hB1.mono (by simp))
  have htx : ({ data := #[1] } : ByteArray) ++ txt (2 :: 2 :: codeL (fun j => ([0, 0, 0, 7, 20, 0, 0, 0] : List Nat).getD j 0) 2) = txt (1 :: 2 :: B.emC.length :: flat B.emC) := by rw [txt_cons]; rfl
  have hts : (txt (2 :: 2 :: codeL (fun j => ([0, 0, 0, 7, 20, 0, 0, 0] : List Nat).getD j 0) 2)).size = 10 := rfl
  clear hB1
  generalize txt (2 :: 2 :: codeL (fun j => ([0, 0, 0, 7, 20, 0, 0, 0] : List Nat).getD j 0) 2) = tx at *
  have HTX : Hid (({ data := #[1] } : ByteArray) ++ tx = txt (1 :: 2 :: B.emC.length :: flat B.emC)) := htx
  clear htx
  go_wp2_with fail
  generalize hty : ({ data := #[1] } : ByteArray) ++ tx = ty
  have HTY : ty = txt (1 :: 2 :: B.emC.length :: flat B.emC) := hty.symm.trans HTX.out
  subst HTY
  clear hty HTX hts
  refine (HL.out B.emC 2 1 9 1 w1 okEm (by omega) (by omega) (by omega) (by omega) (by omega) (by omega) (HGd.out _ _ HG.out KB1.out)).mono ?_
  rintro e w2 ⟨mb, F, rfl, hB2, hF, hM⟩
  have hz1 := KB1.out.size
  have KB2 : Hid (Below w.heap.size w w2) := KB1.out.trans (hB2.mono hz1)
  have KM : Hid (Mach w2 mb F B.emC 2 1 9 (0, fun _ => (0, 0), fun _ => []) 0) := hM
  have KF : Hid (∀ k, F k → w1.heap.size ≤ k ∧ k < w2.heap.size) := hF
  have hz2 := hB2.size
  clear hB2 hM hF
  generalize txt (1 :: 2 :: B.emC.length :: flat B.emC) = ty
  go_wp2_with fail
  refine (HT.out B.emC 2 1 9 mb F _ _ (HK.out _ _ _ _ _ _ _ _ _ _ KM.out (fun k hk => Below.heap_alloc _ _ _ (KF.out k hk).2))).mono ?_
  rintro e w3 ⟨F', s', r, ev, ad, len, cap, rfl, hlc, hE, hO, _, hR, _⟩
  obtain ⟨rfl, rfl⟩ := B.em_runs hR
  obtain ⟨g, rfl, hg, hc⟩ := hE.cells (by simp)
  obtain rfl : len = 2 := hE.1
  obtain ⟨c0, c1, c2⟩ := hc 0 _ rfl
  obtain ⟨c3, c4, c5⟩ := hc 1 _ rfl
  simp only [Nat.zero_mul, Nat.one_mul, Nat.zero_add, Nat.reduceAdd] at c0 c1 c2 c3 c4 c5
  have KB3 : Hid (Below w.heap.size w w3) := Only.below (KB2.out.alloc (by omega) _) hO (fun k hk => by have := KF.out k hk; omega) (by simp; omega)
  clear hE hO hR hc KM KF KB1 KB2
  go_wp2_with fail
  go_ret
  exact ⟨rfl, KB3.out⟩
end Go.Proofs.YtnjiinbhbjpfkaaGreatDoor

/-
  A chain of cells on the machine of one task: what can be reached of it; and the program of the law Chain: it makes just as many cells as there are places, and then there is none free.
-/
namespace Go.Proofs.YtnjiinbhbjpfkaaGreatDoor.B

/-- A chain: each cell has the one behind it in its first slot, and beside that what X says of how many are behind it. -/
def Chn (X : Nat → List V) (M : Nat → List V) : V → List Nat → Prop
  | v, [] => v = (0, 0)
  | v, p :: t => v = (p, 0) ∧ p ≠ 0 ∧ ∃ v', M p = v' :: X t.length ∧ Chn X M v' t

section
variable {X : Nat → List V} (hX : ∀ k v, v ∈ X k → v.1 = 0)

theorem Chn.kept {M M' : Nat → List V} : ∀ {l : List Nat} {v : V}, Chn X M v l → (∀ x, x ∈ l → M' x = M x) → Chn X M' v l
  | [], _, h, _ => h
  | p :: t, _, ⟨h1, h2, v', h3, h4⟩, hk => ⟨h1, h2, v', (hk p (by simp)).trans h3, h4.kept (fun x hx => hk x (by simp [hx]))⟩

theorem Chn.head {M : Nat → List V} {l : List Nat} {v : V} (h : Chn X M v l) : v.1 ≠ 0 → v.1 ∈ l := by
  intro hv
  cases l with
  | nil => rw [show v = (0, 0) from h] at hv; simp at hv
  | cons p t => rw [h.1]; simp

theorem Chn.reach {nr : Nat} {s : St} : ∀ {l : List Nat} {v : V}, Chn X s.2.2 v l → (v.1 ≠ 0 → Reach nr s v.1) → ∀ x, x ∈ l → Reach nr s x
  | [], _, _, _ => fun x hx => by simp at hx
  | p :: t, _, ⟨h1, h2, v', h3, h4⟩, hv => fun x hx => by
    have hp : Reach nr s p := by rw [h1] at hv; exact hv h2
    rcases List.mem_cons.1 hx with rfl | hx
    · exact hp
    · exact h4.reach (fun h => reach_slot hp (by rw [h3]; simp) h) x hx

include hX in
theorem Chn.closed {M : Nat → List V} : ∀ {l : List Nat} {v : V}, Chn X M v l → ∀ k, k ∈ l → ∀ u, u ∈ M k → u.1 ≠ 0 → u.1 ∈ l
  | [], _, _ => fun k hk => by simp at hk
  | p :: t, _, ⟨_, _, v', h3, h4⟩ => fun k hk u hu h0 => by
    rcases List.mem_cons.1 hk with rfl | hk
    · rw [h3] at hu
      rcases List.mem_cons.1 hu with rfl | hu
      · exact List.mem_cons_of_mem _ (h4.head h0)
      · exact absurd (hX _ _ hu) h0
    · exact List.mem_cons_of_mem _ (h4.closed k hk u hu h0)
end

def chainC : List In := [(9, 4, 1, 0), (11, 4, 2, 3), (1, 3, 4, 0), (20, 2, 0, 0), (7, 0, 0, 0)]
def X0 : Nat → List V := fun _ => []
theorem X0_num : ∀ k v, v ∈ X0 k → v.1 = 0 := fun _ _ h => by simp [X0] at h

/-- Ahead of the instruction with the number j. -/
def chainI (n j : Nat) (s : St) : Prop := ∃ i ph l, j = 5 * i + ph ∧ s.1 = ph ∧ s.2.1 0 = (0, 0) ∧ s.2.1 1 = (0, 0) ∧ s.2.1 2 = (0, 0) ∧ s.2.1 5 = (0, 0) ∧ l.Nodup ∧ (∀ x, x ∈ l → 1 ≤ x ∧ x ≤ n) ∧
  ((ph = 0 ∧ l.length = i ∧ Chn X0 s.2.2 (s.2.1 3) l ∧ s.2.1 4 = s.2.1 3) ∨
   (ph = 1 ∧ l.length = i ∧ Chn X0 s.2.2 (s.2.1 3) l ∧ ∃ p, s.2.1 4 = (p, 0) ∧ 1 ≤ p ∧ p ≤ n ∧ p ∉ l ∧ s.2.2 p = [(0, 0)]) ∨
   (ph = 2 ∧ l.length = i + 1 ∧ Chn X0 s.2.2 (s.2.1 4) l ∧ ((s.2.1 3).1 ≠ 0 → (s.2.1 3).1 ∈ l)) ∨
   ((ph = 3 ∨ ph = 4) ∧ l.length = i + 1 ∧ Chn X0 s.2.2 (s.2.1 3) l ∧ s.2.1 4 = s.2.1 3))

def chainE (n j : Nat) : List Ev := if j % 5 = 3 then [(1, 0)] else if j = 5 * n then [(5, 0)] else []

theorem chain_start (n : Nat) (M : Nat → List V) : chainI n 0 (0, fun _ => (0, 0), M) :=
  ⟨0, 0, [], rfl, rfl, rfl, rfl, rfl, rfl, List.nodup_nil, fun x h => by simp at h, Or.inl ⟨rfl, rfl, rfl, rfl⟩⟩

theorem six {P : Nat → Prop} (h0 : P 0) (h1 : P 1) (h2 : P 2) (h3 : P 3) (h4 : P 4) (h5 : P 5) : ∀ i, i < 6 → P i
  | 0, _ => h0
  | 1, _ => h1
  | 2, _ => h2
  | 3, _ => h3
  | 4, _ => h4
  | 5, _ => h5
  | _ + 6, h => absurd h (by omega)

theorem chain_step (n j : Nat) (s s' : St) (r : Nat) (ev : List Ev) (hj : j < 5 * n) (hI : chainI n j s) (h : Step chainC 6 n s s' r ev) : r = 0 ∧ ev = chainE n j ∧ chainI n (j + 1) s' := by
  obtain ⟨i, ph, l, rfl, h1, r0, r1, r2, r5, hn, hr, hp⟩ := hI
  obtain ⟨nx, R, M⟩ := s
  simp only at h1 r0 r1 r2 r5 hp
  subst h1
  rcases hp with ⟨rfl, hl, hc, h4⟩ | ⟨rfl, hl, hc, p, h4, p1, p2, p3, hm⟩ | ⟨rfl, hl, hc, h3⟩ | ⟨h34, hl, hc, h4⟩
  · -- Cell
    have h' : Does 6 n (9, 4, 1, 0) (0, R, M) s' r ev := h
    rcases h' with ⟨hF, _⟩ | ⟨rfl, rfl, p, M', p1, p2, p3, p4, p5, rfl⟩
    · refine absurd hF (not_full l (by omega) ?_ (hc.closed X0_num))
      refine six ?_ ?_ ?_ ?_ ?_ ?_ <;> simp only []
      · rw [r0]; simp
      · rw [r1]; simp
      · rw [r2]; simp
      · exact hc.head
      · rw [h4]; exact hc.head
      · rw [r5]; simp
    · have hre : ∀ x, x ∈ l → Reach 6 (0, R, M) x := hc.reach (fun h => reach_reg (s := (0, R, M)) 3 (by omega) h)
      refine ⟨rfl, by unfold chainE; rw [if_neg (by omega), if_neg (by omega)], i, 1, l, rfl, rfl, ?_, ?_, ?_, ?_, hn, hr, Or.inr (Or.inl ⟨rfl, hl, ?_, p, ?_, p1, p2, fun hx => p3 (hre p hx), p5⟩)⟩
      · exact r0
      · exact r1
      · exact r2
      · exact r5
      · exact hc.kept (fun x hx => p4 x (hre x hx))
      · rfl
  · -- Put
    have h' : Does 6 n (11, 4, 2, 3) (1, R, M) s' r ev := h
    simp only [Does] at h'
    rw [if_pos (by rw [h4, r2]; simp only; rw [hm]; simp; omega)] at h'
    obtain ⟨rfl, rfl, rfl⟩ := h'
    rw [h4, r2]
    refine ⟨rfl, by unfold chainE; rw [if_neg (by omega), if_neg (by omega)], i, 2, p :: l, by omega, rfl, r0, r1, r2, r5, List.nodup_cons.2 ⟨p3, hn⟩, ?_, Or.inr (Or.inr (Or.inl ⟨rfl, by simp [hl], ⟨h4, by omega, R 3, ?_, ?_⟩, ?_⟩))⟩
    · intro x hx
      rcases List.mem_cons.1 hx with rfl | hx
      · exact ⟨p1, p2⟩
      · exact hr x hx
    · simp only [lay_at, hm]; rfl
    · exact hc.kept (fun x hx => lay_off _ _ _ _ (fun e => p3 (by rw [show x = p from e] at hx; exact hx)))
    · intro h; exact List.mem_cons_of_mem _ (hc.head h)
  · -- Move
    have h' : Does 6 n (1, 3, 4, 0) (2, R, M) s' r ev := h
    obtain ⟨rfl, rfl, rfl⟩ := h'
    exact ⟨rfl, by unfold chainE; rw [if_neg (by omega), if_neg (by omega)], i, 3, l, by omega, rfl, r0, r1, r2, r5, hn, hr, Or.inr (Or.inr (Or.inr ⟨Or.inl rfl, hl, hc, rfl⟩))⟩
  · rcases h34 with rfl | rfl
    · -- Emit
      have h' : Does 6 n (20, 2, 0, 0) (3, R, M) s' r ev := h
      simp only [Does] at h'
      rw [if_pos (by rw [r2])] at h'
      obtain ⟨rfl, rfl, rfl⟩ := h'
      exact ⟨rfl, by unfold chainE; rw [if_pos (by omega), r2], i, 4, l, by omega, rfl, r0, r1, r2, r5, hn, hr, Or.inr (Or.inr (Or.inr ⟨Or.inr rfl, hl, hc, h4⟩))⟩
    · -- Jump
      have h' : Does 6 n (7, 0, 0, 0) (4, R, M) s' r ev := h
      obtain ⟨rfl, rfl, rfl⟩ := h'
      exact ⟨rfl, by unfold chainE; rw [if_neg (by omega), if_neg (by omega)], i + 1, 0, l, by omega, rfl, r0, r1, r2, r5, hn, hr, Or.inl ⟨rfl, hl, hc, h4⟩⟩

theorem chain_last (n : Nat) (s s' : St) (r : Nat) (ev : List Ev) (hI : chainI n (5 * n) s) (h : Step chainC 6 n s s' r ev) : r = 2 ∧ ev = chainE n (5 * n) := by
  obtain ⟨i, ph, l, hj, h1, r0, r1, r2, r5, hn, hr, hp⟩ := hI
  obtain ⟨nx, R, M⟩ := s
  simp only at h1 r0 r1 r2 r5 hp
  subst h1
  rcases hp with ⟨rfl, hl, hc, h4⟩ | ⟨rfl, _⟩ | ⟨rfl, _⟩ | ⟨h34, _⟩
  · have hre : ∀ x, x ∈ l → Reach 6 (0, R, M) x := hc.reach (fun h => reach_reg (s := (0, R, M)) 3 (by omega) h)
    have h' : Does 6 n (9, 4, 1, 0) (0, R, M) s' r ev := h
    rcases h' with ⟨_, rfl, rfl⟩ | ⟨_, _, p, M', p1, p2, p3, _⟩
    · exact ⟨rfl, by unfold chainE; rw [if_neg (by omega), if_pos rfl]⟩
    · exact absurd (hre p (all_in l n hn (by omega) hr p p1 p2)) p3
  · omega
  · omega
  · omega

end Go.Proofs.YtnjiinbhbjpfkaaGreatDoor.B

/-
  The law Chain answers true for every input, where Load, Turn and State keep to the interface.
-/
namespace Go.Proofs.YtnjiinbhbjpfkaaGreatDoor
open Go.RowKit

namespace B
/-- How many events are of the first kind. -/
def emt : List Ev → Nat
  | [] => 0
  | e :: l => (if e.1 = 1 then 1 else 0) + emt l
theorem emt_append (l m : List Ev) : emt (l ++ m) = emt l + emt m := by
  induction l with
  | nil => simp [emt]
  | cons a l ih => simp only [List.cons_append, emt, ih]; omega
theorem emt_take (l : List Ev) (j : Nat) (x : Ev) (h : l[j]? = some x) : emt (l.take (j + 1)) = emt (l.take j) + (if x.1 = 1 then 1 else 0) := by
  have hj : j < l.length := (List.getElem?_eq_some_iff.1 h).1
  have hx : l[j] = x := (List.getElem?_eq_some_iff.1 h).2
  rw [List.take_add_one, emt_append, h]
  simp [emt]
theorem emt_take_le (l : List Ev) (j : Nat) : emt (l.take j) ≤ emt l := by
  have : emt l = emt (l.take j ++ l.drop j) := by rw [List.take_append_drop]
  rw [this, emt_append]; omega
theorem chain_cnt (n : Nat) : ∀ m J, J + m ≤ 5 * n + 1 → emt (evs (chainE n) J m) + (J + 1) / 5 = (J + m + 1) / 5 := by
  intro m
  induction m with
  | zero => intro J _; simp [evs, emt]
  | succ m ih =>
    intro J hJ
    have := ih (J + 1) (by omega)
    simp only [evs, emt_append]
    have hE : emt (chainE n J) = if J % 5 = 3 then 1 else 0 := by
      unfold chainE
      split
      · rfl
      · split <;> rfl
    rw [hE]
    split <;> omega
/-- A turn of the chain's machine. -/
theorem chain_turn {n q J : Nat} {s s' : St} {r : Nat} {ev : List Ev} (hJ : J ≤ 5 * n) (hI : chainI n J s) (h : Runs chainC 6 n q s s' r ev) :
    (J + q ≤ 5 * n ∧ r = 0 ∧ chainI n (J + q) s' ∧ emt ev + (J + 1) / 5 = (J + q + 1) / 5) ∨ (5 * n < J + q ∧ r = 2 ∧ emt ev + (J + 1) / 5 = n) := by
  by_cases hq : J + q ≤ 5 * n
  · obtain ⟨rfl, rfl, h2⟩ := runs_on (I := chainI n) (E := chainE n) (B := 5 * n) (chain_step n) q J s s' r ev hq hI h
    exact Or.inl ⟨hq, rfl, h2, chain_cnt n q J (by omega)⟩
  · obtain ⟨rfl, rfl⟩ := runs_off (I := chainI n) (E := chainE n) (B := 5 * n) (R := 2) (chain_step n) (by omega) (chain_last n) q J s s' r ev hJ (by omega) hI h
    refine Or.inr ⟨by omega, rfl, ?_⟩
    have := chain_cnt n (5 * n + 1 - J) J (by omega)
    omega
end B

/-- How the chain's machine stands behind J instructions that were asked for. -/
def chainS (n J r : Nat) (s : B.St) : Prop := (J ≤ 5 * n ∧ r = 0 ∧ B.chainI n J s) ∨ (5 * n < J ∧ r = 2)

theorem chain_turn_any {Mach : MachT} (hT : TurnOk Mach) (hTo : TurnOff Mach) (n q mb J r b : Nat) (F : Nat → Prop) (s : B.St) (w0 w : World) (hM : Mach w mb F B.chainC 6 n q s r) (hS : chainS n J r s) (hB : Below b w0 w) (hF : ∀ k, F k → b ≤ k ∧ k < w.heap.size) (hb : b ≤ w.heap.size) :
    Calls Tryz.prog 24 #[P0 mb, .int .i64 0, .slice none 0 0] w fun e w' => ∃ (F' : Nat → Prop) (s' : B.St) (r' : Nat) (ev : List B.Ev) (ad : Option Addr) (cap : Nat), e = .returned (.slice ad ev.length cap) ∧ ev.length ≤ maxLen ∧ Hid (Evs w' ad ev.length ev) ∧ Hid (Below b w0 w') ∧ Hid (∀ k, F' k → b ≤ k ∧ k < w'.heap.size) ∧ Hid (Mach w' mb F' B.chainC 6 n q s' r') ∧ Hid (chainS n (J + q) r' s') ∧ Hid (B.emt ev + (min J (5 * n + 1) + 1) / 5 = (min (J + q) (5 * n + 1) + 1) / 5) := by
  rcases hS with ⟨hJ, rfl, hI⟩ | ⟨hJ, rfl⟩
  · refine (hT B.chainC 6 n q mb F s w hM).mono ?_
    rintro e w' ⟨F', s', r', ev, ad, len, cap, rfl, hlm, hE, hO, hF', hR, hM'⟩
    obtain rfl := hE.1
    have hf2 : ∀ k, F' k → b ≤ k ∧ k < w'.heap.size := fun k hk => by
      rcases hF' k hk with h | h
      · have := hF k h; have := hO.2.2.2.1; omega
      · omega
    have hB2 := Only.below hB hO (fun k hk => (hF k hk).1) hb
    rcases B.chain_turn hJ hI hR with ⟨h1, rfl, h2, h3⟩ | ⟨h1, rfl, h3⟩
    · exact ⟨F', s', 0, ev, ad, cap, rfl, hlm, hE, hB2, hf2, hM' (by omega), Or.inl ⟨h1, rfl, h2⟩, by show _ = _; rw [Nat.min_eq_left (by omega), Nat.min_eq_left (by omega)]; exact h3⟩
    · exact ⟨F', s', 2, ev, ad, cap, rfl, hlm, hE, hB2, hf2, hM' (by omega), Or.inr ⟨h1, rfl⟩, by show _ = _; rw [Nat.min_eq_left (by omega), Nat.min_eq_right (by omega)]; omega⟩
  · refine (hTo B.chainC 6 n q mb F s 2 w (by omega) hM).mono ?_
    rintro e w' ⟨F', ad, cap, rfl, hO, hF', hM'⟩
    have hf2 : ∀ k, F' k → b ≤ k ∧ k < w'.heap.size := fun k hk => by
      rcases hF' k hk with h | h
      · have := hF k h; have := hO.2.2.2.1; omega
      · omega
    exact ⟨F', s, 2, [], ad, cap, rfl, Nat.zero_le _, ⟨rfl, fun h => absurd rfl h⟩, Only.below hB hO (fun k hk => (hF k hk).1) hb, hf2, hM', Or.inr ⟨by omega, rfl⟩, by show _ = _; rw [Nat.min_eq_right (by omega), Nat.min_eq_right (by omega)]; simp [B.emt]⟩

theorem okChain : okCode 6 B.chainC := by unfold okCode; decide

set_option maxRecDepth 100000 in
set_option maxHeartbeats 2000000 in
theorem chain_any {Good : World → Prop} {Mach : MachT} (hI : Iface Good Mach) (x0 x1 x2 : Int) (h0 : -9223372036854775808 ≤ x0 ∧ x0 ≤ 9223372036854775807) (h1 : -9223372036854775808 ≤ x1 ∧ x1 ≤ 9223372036854775807) (h2 : -9223372036854775808 ≤ x2 ∧ x2 ≤ 9223372036854775807) (w : World) (hG : Good w) :
    Calls Tryz.prog 6 #[.int .i64 x0, .int .i64 x1, .int .i64 x2] w fun e w' => e = .returned (.bool true) ∧ Below w.heap.size w w' := by
  have HI : Hid (Iface Good Mach) := hI
  obtain ⟨hL, hT, hTo, hS, hK, hGd⟩ := hI
  have HK : Hid (KeepOk Mach) := hK
  have HL : Hid (LoadOk Good Mach) := hL
  have HT : Hid (TurnOk Mach) := hT
  have HTo : Hid (TurnOff Mach) := hTo
  have HS : Hid (StateOk Mach) := hS
  have HGd : Hid (GoodOk Good) := hGd
  have HG : Hid (Good w) := hG
  clear hL hT hGd hG hK hTo hS
  go_enter Tryz.func6, Tryz.ntmps6
  go_wp2_with fail
  refine (emits_any HI.out w HG.out).mono ?_
  rintro e w1 ⟨rfl, hB1⟩
  have KB1 : Hid (Below w.heap.size w w1) := hB1
  clear hB1
  go_wp2_with fail
  refine (pick_any x0 200 (by omega) (by omega) h0.1 h0.2 w1).mono ?_
  rintro e w1' ⟨rfl, rfl⟩
  have ha := pk_lt x0 200 (by omega)
  generalize pk x0 200 = a at *
  go_wp2_with fail
  refine (pick_any x1 50 (by omega) (by omega) h1.1 h1.2 _).mono ?_
  rintro e w1'' ⟨rfl, rfl⟩
  have hb := pk_lt x1 50 (by omega)
  generalize pk x1 50 = b at *
  obtain ⟨n, hn⟩ : ∃ n : Nat, 1 + (a : Int) = (n : Int) := ⟨1 + a, by omega⟩
  rw [hn]
  have hn1 : 1 ≤ n := by omega
  have hn2 : n ≤ 200 := by omega
  clear hn ha
  go_wp2_with fail
  obtain ⟨q, hq⟩ : ∃ q : Nat, 1 + (b : Int) = (q : Int) := ⟨1 + b, by omega⟩
  rw [hq]
  have hq1 : 1 ≤ q := by omega
  have hq2 : q ≤ 50 := by omega
  clear hq hb
  refine (function_any 6 5 w1''.heap.size 5 37 20 (fun j => ([9, 4, 1, 0, 11, 4, 2, 3, 1, 3, 4, 0, 20, 2, 0, 0, 7, 0, 0, 0] : List Nat).getD j 0) _ (by omega) (by omega) (by decide) ⟨_, heap_alloc_new _ _, rfl, fun j hj => full_list [9, 4, 1, 0, 11, 4, 2, 3, 1, 3, 4, 0, 20, 2, 0, 0, 7, 0, 0, 0] j hj⟩ (by omega)).mono ?_
  rintro e w2 ⟨rfl, hB2⟩
  have KB2 : Hid (Below w.heap.size w w2) := (KB1.out.alloc KB1.out.size _).trans (hB2.mono (by have := KB1.out.size; simp; omega))
  have htx : ({ data := #[1] } : ByteArray) ++ txt (6 :: 5 :: codeL (fun j => ([9, 4, 1, 0, 11, 4, 2, 3, 1, 3, 4, 0, 20, 2, 0, 0, 7, 0, 0, 0] : List Nat).getD j 0) 5) = txt (1 :: 6 :: B.chainC.length :: flat B.chainC) := by rw [txt_cons]; rfl
  have hts : (txt (6 :: 5 :: codeL (fun j => ([9, 4, 1, 0, 11, 4, 2, 3, 1, 3, 4, 0, 20, 2, 0, 0, 7, 0, 0, 0] : List Nat).getD j 0) 5)).size = 22 := rfl
  clear hB2 KB1
  generalize txt (6 :: 5 :: codeL (fun j => ([9, 4, 1, 0, 11, 4, 2, 3, 1, 3, 4, 0, 20, 2, 0, 0, 7, 0, 0, 0] : List Nat).getD j 0) 5) = tx at *
  have HTX : Hid (({ data := #[1] } : ByteArray) ++ tx = txt (1 :: 6 :: B.chainC.length :: flat B.chainC)) := htx
  clear htx
  go_wp2_with fail
  refine (pick_any x2 50 (by omega) (by omega) h2.1 h2.2 _).mono ?_
  rintro e w2' ⟨rfl, rfl⟩
  have hb := pk_lt x2 50 (by omega)
  generalize pk x2 50 = c at *
  go_wp2_with fail
  obtain ⟨k, hk⟩ : ∃ k : Nat, 1 + (c : Int) = (k : Int) := ⟨1 + c, by omega⟩
  rw [hk]
  have hk1 : 1 ≤ k := by omega
  have hk2 : k ≤ 50 := by omega
  clear hk hb
  generalize hty : ({ data := #[1] } : ByteArray) ++ tx = ty
  have HTY : ty = txt (1 :: 6 :: B.chainC.length :: flat B.chainC) := hty.symm.trans HTX.out
  subst HTY
  clear hty HTX hts
  have hzw := KB2.out.size
  refine (HL.out B.chainC 6 n q k w2' okChain hn1 hn2 hq1 hq2 hk1 hk2 (HGd.out _ _ HG.out KB2.out)).mono ?_
  rintro e w3 ⟨mb, F, rfl, hB3, hF, hM⟩
  have KB3 : Hid (Below w.heap.size w w3) := KB2.out.trans (hB3.mono hzw)
  have KM3 : Hid (Mach w3 mb F B.chainC 6 n q (0, fun _ => (0, 0), fun _ => []) 0) := hM
  have KF3 : Hid (∀ k, F k → w.heap.size ≤ k ∧ k < w3.heap.size) := fun k hk => ⟨by have := hF k hk; omega, (hF k hk).2⟩
  have hz3 := hB3.size
  clear hB3 hM hF KB2
  generalize txt (1 :: 6 :: B.chainC.length :: flat B.chainC) = ty
  go_wp2_with fail
  generalize hw4 : w3.alloc (.cells #[.int .i64 0, .int .i64 0] 42) = w4
  have KB4 : Hid (Below w.heap.size w w4) := by show Below _ _ _; rw [← hw4]; exact KB3.out.alloc (by omega) _
  have KM4 : Hid (Mach w4 mb F B.chainC 6 n q (0, fun _ => (0, 0), fun _ => []) 0) := by
    show Mach _ _ _ _ _ _ _ _ _
    rw [← hw4]
    exact HK.out _ _ _ _ _ _ _ _ _ _ KM3.out (fun k hk => Below.heap_alloc _ _ _ (KF3.out k hk).2)
  have hz4 : w4.heap.size = w3.heap.size + 1 := by rw [← hw4]; simp
  have KF4 : Hid (∀ k, F k → w.heap.size ≤ k ∧ k < w4.heap.size) := fun k hk => ⟨(KF3.out k hk).1, by have := (KF3.out k hk).2; omega⟩
  have hz5 : w.heap.size ≤ w4.heap.size := by omega
  clear hw4 KB3 KM3 KF3 hz4 hz3 hzw
  obtain ⟨D, hD⟩ : ∃ D, D = 5 * n / q := ⟨_, rfl⟩
  have hD1 : D * q ≤ 5 * n := by rw [hD]; exact Nat.div_mul_le_self _ _
  have hD2 : 5 * n < (D + 1) * q := by rw [hD, Nat.mul_comm (5 * n / q + 1) q]; exact Nat.lt_mul_div_succ _ (by omega)
  have hD3 : D ≤ 1000 := by rw [hD]; exact Nat.le_trans (Nat.div_le_self _ _) (by omega)
  have hdv : (5 * (n : Int)).tdiv (q : Int) = (D : Int) := by rw [hD, Int.tdiv_eq_ediv_of_nonneg (by omega)]; simp
  have HD1 : Hid (D * q ≤ 5 * n ∧ 5 * n < (D + 1) * q) := ⟨hD1, hD2⟩
  clear hD hD1 hD2
  go_loopw [13, 14] (fun made i wr => ∃ (I : Nat) (F : Nat → Prop) (s : B.St) (r m0 : Nat), i = .int .i64 I ∧ I ≤ D + 3 ∧ made = .int .i64 (m0 : Nat) ∧ m0 ≤ 1000 ∧ Hid (m0 = (min (I * q) (5 * n + 1) + 1) / 5) ∧ Hid (Mach wr mb F B.chainC 6 n q s r) ∧ Hid (chainS n (I * q) r s) ∧ Hid (Below w.heap.size w wr) ∧ Hid (∀ k, F k → w.heap.size ≤ k ∧ k < wr.heap.size)) (fun _ i _ => D + 3 - (intOf i).toNat)
  case atStart => exact ⟨0, F, _, 0, 0, rfl, by omega, rfl, by omega, by show _ = _; simp, KM4, Or.inl ⟨by omega, rfl, by rw [Nat.zero_mul]; exact B.chain_start n _⟩, KB4, KF4⟩
  case round =>
    obtain ⟨I, F, s, r, m0, rfl, hI, rfl, hm0, rN, rM, rC, rB, rF⟩ := hrel
    clear KM4 KB4 KF4
    by_cases hlt : I ≤ D + 2
    · have hzr : w.heap.size ≤ wr.heap.size := rB.out.size
      go_wp2_with fail
      refine (chain_turn_any HT.out HTo.out n q mb (I * q) r w.heap.size F s w wr rM.out rC.out rB.out rF.out hzr).mono ?_
      rintro e w5 ⟨F5, s5, r5, ev, ad, cap, rfl, hlm, kE, kB, kF, kM, kS, kN⟩
      have hlm2 : ev.length ≤ 9223372036854775807 := by unfold maxLen at hlm; omega
      clear hlm
      clear rM rC rB rF hzr
      go_wp2_with fail
      have hcn : B.emt ev + m0 ≤ 1000 := by
        have e1 := kN.out
        have e2 := rN.out
        have : min (I * q + q) (5 * n + 1) ≤ 5 * n + 1 := Nat.min_le_right _ _
        omega
      go_loopw [13, 16] (fun made j wr => ∃ (i c : Nat), j = .int .i64 i ∧ i ≤ ev.length ∧ made = .int .i64 (c : Nat) ∧ c ≤ 1000 ∧ Hid (c = m0 + B.emt (ev.take i)) ∧ wr = w5) (fun _ j _ => ev.length - (intOf j).toNat)
      case atStart => exact ⟨0, m0, rfl, by omega, rfl, hm0, by show _ = _; simp [B.emt], rfl⟩
      case round =>
        obtain ⟨i, c, rfl, hi, rfl, hc, rK, rfl⟩ := hrel
        by_cases hil : i < ev.length
        · obtain ⟨x, hx⟩ : ∃ x, ev[i]? = some x := ⟨ev[i], List.getElem?_eq_getElem hil⟩
          have hct := B.emt_take ev i x hx
          have hle := B.emt_take_le ev (i + 1)
          obtain ⟨g, rfl, hg, hcell⟩ := kE.out.cells (by intro e; rw [e] at hil; simp at hil)
          obtain ⟨c0, _, _⟩ := hcell i x hx
          clear hcell hx
          by_cases h1 : x.1 = 1
          · rw [h1] at c0
            rw [if_pos h1] at hct
            have hc2 : c + 1 ≤ 1000 := by have := rK.out; omega
            have KC : Hid (c + 1 = m0 + B.emt (ev.take (i + 1))) := by show _ = _; have := rK.out; omega
            clear hct hle rK hcn
            go_wp2_with fail
            go_roundw
            case rel => exact ⟨i + 1, c + 1, by go_num, by omega, by go_num, hc2, KC, trivial⟩
            case measure => simp [intOf]; omega
          · have hb1 : ((x.1 : Int) == 1) = false := by simp; omega
            rw [if_neg h1] at hct
            have KC : Hid (c = m0 + B.emt (ev.take (i + 1))) := by show _ = _; have := rK.out; omega
            clear hct hle rK hcn
            go_wp2_with fail
            go_roundw
            case rel => exact ⟨i + 1, c, by go_num, by omega, rfl, hc, KC, trivial⟩
            case measure => simp [intOf]; omega
        · obtain rfl : i = ev.length := by omega
          have KC : Hid (c = (min ((I + 1) * q) (5 * n + 1) + 1) / 5) := by
            show _ = _
            have e1 := kN.out
            have e2 := rN.out
            have e3 := rK.out
            rw [List.take_length] at e3
            rw [Nat.add_mul, Nat.one_mul]
            omega
          have KS : Hid (chainS n ((I + 1) * q) r5 s5) := by show chainS _ _ _ _; rw [Nat.add_mul, Nat.one_mul]; exact kS.out
          clear kE kN rK rN kS hcn
          go_wp2_with fail
          go_roundw
          case rel => exact ⟨I + 1, F5, s5, r5, c, by go_num, by omega, rfl, hc, KC, kM, KS, kB, kF⟩
          case measure => simp [intOf]; omega
    · obtain rfl : I = D + 3 := by omega
      have hJ : 5 * n < (D + 3) * q := by have := HD1.out.2; have : (D + 1) * q ≤ (D + 3) * q := Nat.mul_le_mul_right q (by omega); omega
      have hr : r = 2 := by
        rcases rC.out with ⟨h, _⟩ | ⟨_, h⟩
        · omega
        · exact h
      have hmn : m0 = n := by
        have := rN.out
        rw [Nat.min_eq_right (by omega)] at this
        omega
      subst hr hmn
      clear rC rN hJ
      have hzr : w.heap.size ≤ wr.heap.size := rB.out.size
      go_wp2_with fail
      refine (HS.out B.chainC 6 m0 q mb F s 2 wr rM.out).mono ?_
      rintro e w6 ⟨rfl, hO⟩
      have KB6 : Hid (Below w.heap.size w w6) := Only.below rB.out hO (fun k hk => (rF.out k hk).1) hzr
      clear hO rM rB rF
      go_wp2_with fail
      go_ret
      exact ⟨rfl, KB6.out⟩
end Go.Proofs.YtnjiinbhbjpfkaaGreatDoor

/-
  For every input the law Chain returns true, and its arguments read as they did, where Load, Turn and State keep to the interface. No condition on the input; the package-level table of the operands' letters is taken as its initialiser lays it.
-/
namespace Go.Proofs.YtnjiinbhbjpfkaaGreatDoor
open Go.ChangeShapes Go.WideShapes Go.ChangeAt Go.WideMaps Go.WideElems Go.RowKit Go.Joins

theorem wf64 {c : Int} (h : (Lit.int .i64 c).wf = true) : -9223372036854775808 ≤ c ∧ c ≤ 9223372036854775807 := by
  have h' : IntKind.i64.min ≤ c ∧ c ≤ IntKind.i64.max := by simpa [Lit.wf] using h
  exact ⟨h'.1, h'.2⟩
theorem own : ownKnob Tryz.prog.godebug = none := by kernel_rfl
theorem gOpn : Tryz.prog.globalNamed (Rows.chainRow.named.headD "") = some 0 := by kernel_rfl
theorem tOpn : (Tryz.prog.globals[0]?).map (·.type) = some 283 := by kernel_rfl
theorem cells9 : Tryz.prog.cellsOf 9 = 1 := by kernel_rfl
theorem cells283 : Tryz.prog.cellsOf 283 = 23 := by kernel_rfl
theorem laid_is : (Rows.laid_turnstile_code_operandKinds : DataW Unit) = .agg ((List.range 23).map fun i => .lit (.string (M.KS i).data.toList)) := by rfl

/-- What the row's list gives: the table. -/
theorem tab_of_laid {W : World} (h : laidMetH Tryz.prog Rows.chainRow.laid W) : Tab W := by
  rw [MakeChecks.laidMetH_plain _ _ _ (by kernel_rfl)] at h
  obtain ⟨ps, ⟨g0, t0, cs0, f0, p0, q0, hg0, ht0, hv0, hd0, _, _⟩, _, _⟩ := h
  obtain rfl : 0 = g0 := Option.some.inj (gOpn.symm.trans hg0)
  obtain rfl : 283 = t0 := Option.some.inj (tOpn.symm.trans ht0)
  obtain ⟨xs, m1, rfl, hx1, hlen, hn3, hel⟩ := DataW.trod_array Tryz.underlying283 hd0
  simp only [Prod.mk.injEq] at hx1
  have hx := hx1.1
  have key : ∀ op, op < 23 → W.cell? ⟨0, op, none⟩ = some (.string (M.KS op)) := by
    intro op ho
    have h1 := hel op ho
    have hxo : xs[op]? = some (xs[op]'(by omega)) := List.getElem?_eq_getElem (by omega)
    rw [hxo, cells9] at h1
    obtain ⟨S, e1, e2, _⟩ := DataW.trod_string Tryz.underlying9 h1
    have hS : S = M.KS op := by
      have e3 : (.agg ((List.range 23).map fun i => .lit (.string (M.KS i).data.toList)) : DataW Unit) = .agg (xs.map (·.1)) := laid_is.symm.trans hx
      simp only [DataW.agg.injEq] at e3
      have e4 := congrArg (fun l => l[op]?) e3
      simp only [List.getElem?_map, List.getElem?_range ho, hxo, Option.map_some, Option.some.injEq] at e4
      rw [e2] at e4
      simp only [DataW.lit.injEq, Lit.string.injEq] at e4
      have e5 : (M.KS op).data = S.data := Array.toList_inj.1 e4
      cases S; cases hk : M.KS op
      rw [hk] at e5
      exact congrArg ByteArray.mk e5.symm
    have hc := World.var?_cell hg0 hv0 op
    rw [hc, ← hS]
    rw [Nat.mul_one] at e1
    have e6 := congrArg (fun l => l[0]?) e1
    simpa [List.getElem?_take, List.getElem?_drop] using e6
  refine ⟨?_, key⟩
  have := key 0 (by omega)
  exact World.block_lt_of_cell? W ⟨0, 0, none⟩ this


theorem door_met (os : Os) (args : Array Value) : laidMetH Tryz.prog Rows.chainRow.laid ((World.doorLaid Tryz.prog 400 os).forCall (fun _ _ => 0) ⟨#[], args, []⟩).memory :=
  laidMetH_of_parts3 (fuel := 8) (laidMet_of_run' 8 (by kernel_rfl) (by kernel_rfl)) (by kernel_rfl) (by kernel_rfl)

set_option maxRecDepth 100000 in
theorem chain_lifted {Mach : MachT} (hI : Iface Tab Mach) (os : Os) (started : os.Started) (H : Type) (enc : TypeId × Value → H) :
    ReturnsInHanded {} Tryz.checked os 6 .any (fun w args => (Rows.chainSpec.pre enc Tryz.prog Tryz.f6 [] false w args ∧ laidMetH Tryz.prog Rows.chainRow.laid w) ∧ sizedMet enc Tryz.prog Tryz.f6 (OpenSpec.ofChange Rows.chainSpec) false w args)
      (Rows.chainSpec.post enc Tryz.prog Tryz.f6 false true false false) := by
  refine returnsInHanded_of_change_and (C := Tryz.checked) (X := fun w _ => laidMetH Tryz.prog Rows.chainRow.laid w) (fun _ _ _ hh h => h.of_heap hh) own started (by kernel_rfl) Tryz.func6
    (ChangeSpec.witness_shaped (enc := enc) (C := Tryz.checked) (os := os) (X := fun w _ => laidMetH Tryz.prog Rows.chainRow.laid w) false (World.doorLaid Tryz.prog 400 os) #[.int .i64 0, .int .i64 0, .int .i64 0] 8 rfl (World.shaped_of_RefB (by kernel_rfl) (by kernel_rfl)) (by kernel_rfl) (by kernel_rfl) (by kernel_rfl) (door_met os _)) ?_
  intro W base args ds gs before hval0 hW hcnd hsz0 hL _
  have hW' := hW
  obtain ⟨p, q, hA0, hV, rfl, hfz, hnd⟩ := hW
  have hA : DataW.TrodAll enc Tryz.prog W 0 (fun _ => true) true Tryz.f6.params.toList args.toList ds p := hA0
  rw [Tryz.params6] at hA
  obtain ⟨v0, v1, v2, d0, d1, d2, p0, p1, p2, rfl, rfl, rfl, h0, h1, h2⟩ := trodAll_three hA
  obtain ⟨rfl, rfl⟩ := trodVars_none hV
  have hT : Tab W := tab_of_laid hL
  have hval : ∀ (j : Nat) t v, Tryz.f6.params[j]? = some t → #[v0, v1, v2][j]? = some v → Value.okWide Tryz.prog W .any base t v := hval0
  rw [Tryz.params6] at hval
  obtain ⟨c0, rfl, rfl, rfl, wc0⟩ := open_int Tryz.underlying3 (hval 0 3 v0 rfl rfl) h0
  obtain ⟨c1, rfl, rfl, rfl, wc1⟩ := open_int Tryz.underlying3 (hval 1 3 v1 rfl rfl) h1
  obtain ⟨c2, rfl, rfl, rfl, wc2⟩ := open_int Tryz.underlying3 (hval 2 3 v2 rfl rfl) h2
  refine (chain_any hI c0 c1 c2 (wf64 wc0) (wf64 wc1) (wf64 wc2) W hT).mono fun e W' ⟨he, hB⟩ => ?_
  subst he
  refine ⟨_, rfl, [.lit (.int .i64 c0), .lit (.int .i64 c1), .lit (.int .i64 c2)], [], _, [], [], [], hW', ?_, ?_, rfl, ?_, fun h => by cases h⟩
  · exact trodAll_mk1 (shut_bool Tryz.underlying4 _)
  · exact trodAll_mk3 (shut_int Tryz.underlying3 wc0) (shut_int Tryz.underlying3 wc1) (shut_int Tryz.underlying3 wc2)
  · exact hB.frame _

theorem chain_said {Mach : MachT} (hI : Iface Tab Mach) : Rows.ChainSaid :=
  OpenClaim.holds_of_wide 6 Tryz.f6 rfl rfl rfl rfl rfl rfl rfl ⟨rfl, rfl, rfl, rfl, rfl⟩ rfl rfl rfl rfl rfl (by kernel_rfl) Tryz.func6 (by kernel_rfl)
    (of_decide_eq_true (by kernel_rfl)) (by unfold Func.isWrapper; first | (rw [if_pos (by decide +kernel)]; kernel_rfl) | (rw [if_neg (by decide +kernel)]; exact ⟨rfl, rfl⟩))
    (fun os started H enc _ => chain_lifted hI os started H enc)

/-- No parameter wants a stand-in; the program's own looks are off. -/
theorem chain_plain (f : FuncId) (fn : Func) (hf : Tryz.pinned.checked.prog.funcNamed Rows.chainRow.func = some f) (hfn : Tryz.pinned.checked.prog.funcs[f]? = some fn) :
    false = Tryz.pinned.checked.prog.looks [] ∧ ∀ (j : Nat) t, fn.params[j]? = some t → Tryz.pinned.checked.prog.wantsStandIn t = false := by
  obtain rfl : f = 6 := Option.some.inj ((show Tryz.prog.funcNamed Rows.chainRow.func = some 6 by kernel_rfl).symm.trans hf) |>.symm
  obtain rfl : fn = Tryz.f6 := (Option.some.inj (Tryz.func6.symm.trans hfn)).symm
  refine ⟨by kernel_rfl, fun j t ht => ?_⟩
  rw [Tryz.params6] at ht
  have hm : t ∈ [3, 3, 3] := by simpa using Array.mem_of_getElem? ht
  have hall : ([3, 3, 3].all fun u => !Tryz.prog.wantsStandIn u) = true := by kernel_rfl
  exact (show Tryz.prog.wantsStandIn t = false by simpa using List.all_eq_true.1 hall t hm)

theorem chain_card_of {Mach : MachT} (hI : Iface Tab Mach) : Rows.ChainCardSaid :=
  Claim7.holds_tied_plain_at .later [] _ _ _ _ (chain_said hI) (fun _ h => by cases h) (by kernel_rfl) (fun _ h => by cases h) chain_row_tie rfl ⟨rfl, rfl⟩ (by kernel_rfl) rfl chain_plain (by kernel_rfl)
end Go.Proofs.YtnjiinbhbjpfkaaGreatDoor
