/-
  A task goes to the end of the queue, which is empty, and has room for it.
-/
import Derived.Test.YtnjiinbhbjpfkaaGreatDoorRoomB
import Derived.Test.YtnjiinbhbjpfkaaGreatDoorRoomC
import Derived.Test.YtnjiinbhbjpfkaaGreatDoorRoomF
import Derived.Test.YtnjiinbhbjpfkaaGreatDoorRoomH
import Derived.Test.YtnjiinbhbjpfkaaGreatDoorRoomI
import Derived.Deep.RegionHeld3
namespace Go.Proofs.YtnjiinbhbjpfkaaGreatDoor
open Go.RowKit

/-- 'append' within the room of a row of the call's own: the row stays where it is. -/
theorem wpList_append_in {P : Program} {w : World} {ops : Array Oper} {rest : List Oper} {o : Oper} {a : Act} {Q : Exit → Act → World → Prop} (hgd : o.guard = none) (s x : Operand) (t : TypeId)
    (ho : o.op = .call { callee := .builtin .append, args := #[s, x], argTypes := #[t, t] })
    (base : Nat) (e : TypeId) (i : TypeInfo) (z : Value) (size bytes : Nat) (ht : P.underlying t = some (.slice e)) (hi : P.info? e = some i) (hz : i.zero = some z)
    (hsize : i.size = size) (hby : i.bytes = bytes) (hzs : z.cells.size = size) (hsz : 0 < size)
    (g cap : Nat) (n : Nat) (xs : List Value) (hs : a.eval s = .slice (some ⟨g, 0, none⟩) n cap) (hown : w.ownsRow base e size (.slice (some ⟨g, 0, none⟩) n cap) n xs)
    (ad : Addr) (m c : Nat) (news : List Value) (hx : a.eval x = .slice (some ad) m c) (hl : news.length = m * size) (hnews : ∀ j u, news[j]? = some u → w.cell? (ad.add j) = some u) (h1 : ∀ u ∈ news, u.oneCell' = true)
    (h63 : n + m ≤ maxLen) (hbytes : (n + m) * bytes ≤ 140737488355328) (hbase : base ≤ w.heap.size) (hroom : n + m ≤ cap)
    (h : ∀ w', w'.ownsRow base e size (.slice (some ⟨g, 0, none⟩) (n + m) cap) (n + m) (xs ++ news) → w.grownBy w' (some g) → wpList P ops Q rest (a.put o.dst (.slice (some ⟨g, 0, none⟩) (n + m) cap)) w') : wpList P ops Q (o :: rest) a w := by
  refine wpList_plain hgd fun _ hK => ?_
  obtain ⟨v', w', hr, h2, h3, h4⟩ := run_append_own (P := P) w base t o.type e i z size bytes ht hi hz hsize hby hzs hsz _ n xs hown ad m c news hl hnews h1 h63 hbytes hbase
  have hv : v' = .slice (some ⟨g, 0, none⟩) (n + m) cap := by
    rcases hown.2 with ⟨h, _⟩ | ⟨g', c', cur, h1', _, h2', h3', h4', h5', _⟩
    · cases h
    · cases h1'
      subst hsize
      have hr2 := run_append_room (P := P) w t o.type e i ht hi g n cap cur h2' ad m c news hl hnews h1 hroom (by rw [hl, h5', ← Nat.add_mul]; exact Nat.mul_le_mul_right _ hroom)
      rw [hr] at hr2
      injection hr2
  subst hv
  unfold Oper.wp execOp
  simp only [ho, resolve, invoke, builtin, Sem.run_bind, Sem.run_pure, Result.andThen_ok, List.map_toArray, List.map_cons, List.map_nil, hs, hx, hr]
  exact hK _ _ (h w' h2 h3)

set_option maxRecDepth 100000 in
set_option maxHeartbeats 1000000 in
theorem sinsert_room (qb cap base x : Nat) (y : Value) (hy : y.oneCell' = true) (w : World) (hown : w.ownsRow base 155 1 (.slice (some ⟨qb, 0, none⟩) 0 cap) 0 []) (hx : w.cell? ⟨x, 0, none⟩ = some y) (hb : base ≤ w.heap.size) (hcap : 0 < cap) :
    Calls Tryz.prog 203 #[.slice (some ⟨qb, 0, none⟩) 0 cap, .int .i64 0, .slice (some ⟨x, 0, none⟩) 1 1] w fun e w' => e = .returned (.slice (some ⟨qb, 0, none⟩) 1 cap) ∧ w'.ownsRow base 155 1 (.slice (some ⟨qb, 0, none⟩) 1 cap) 1 [y] ∧ w.grownBy w' (some qb) := by
  obtain ⟨i0, hi, hz0, hz1, hz2⟩ := info_parts Tryz.info155
  have HO : Hid (w.ownsRow base 155 1 (.slice (some ⟨qb, 0, none⟩) 0 cap) 0 []) := hown
  clear hown
  go_enter Tryz.func203, Tryz.ntmps203
  go_wp2_with (at_builtin; refine wpList_append_in rfl (.tmp 23) (.tmp 24) 136 rfl base 155 i0 _ 1 8 Tryz.underlying136 hi hz0 hz1 hz2 rfl (by decide) _ _ _ _ rfl HO.out ⟨x, 0, none⟩ 1 1 [y] rfl rfl ?c1 ?c2 ?c3 ?c4 ?c5 ?c6 ?_)
  try case c1 => intro j u hj; match j, hj with | 0, hj => (simp at hj; subst hj; simpa [Addr.add] using hx)
  try case c2 => intro u hu; simp at hu; subst hu; exact hy
  try case c3 => unfold maxLen; omega
  try case c4 => omega
  try case c5 => exact hb
  try case c6 => omega
  intro w' ho hg
  go_wp2_with fail
  go_ret
  exact ⟨rfl, ho, hg⟩

set_option maxRecDepth 100000 in
set_option maxHeartbeats 1000000 in
/-- A task that stands nowhere goes to the end of the queue, which is empty. -/
theorem insert_room (eb tb qb cap base : Nat) (E Tk : Nat → Value) (w : World) (hE : Full w eb 144 44 44 E) (hE31 : E 32 = .slice (some ⟨qb, 0, none⟩) 0 cap) (hT : Full w tb 160 7 7 Tk) (hT3 : Tk 3 = .pointer none)
    (hown : w.ownsRow base 155 1 (.slice (some ⟨qb, 0, none⟩) 0 cap) 0 []) (hcap : 0 < cap) (hb : base ≤ w.heap.size) :
    Calls Tryz.prog 166 #[Pt eb 32, .int .i64 0, P0 tb] w fun e w' => e = .returned (.tuple #[]) ∧ w'.ownsRow base 155 1 (.slice (some ⟨qb, 0, none⟩) 1 cap) 1 [P0 tb] ∧ Full w' eb 144 44 44 (upd E 32 (.slice (some ⟨qb, 0, none⟩) 1 cap)) ∧ Full w' tb 160 7 7 (upd (upd Tk 2 (.bool false)) 3 (Pt eb 32)) ∧ Only (fun k => k = eb ∨ k = tb ∨ (Value.slice (some ⟨qb, 0, none⟩) 0 cap).ownBlock = some k) w w' := by
  have ne : eb ≠ tb := hE.ne hT (by decide)
  obtain ⟨c31, z31⟩ := hE.cells 32 (by omega)
  obtain ⟨c2, z2⟩ := hT.cells 2 (by omega)
  obtain ⟨c3, z3⟩ := hT.cells 3 (by omega)
  rw [hE31] at c31
  rw [hT3] at c3
  generalize Tk 2 = y2 at c2
  have le := hE.lt
  have lt := hT.lt
  have HE : Hid (Full w eb 144 44 44 E) := hE
  have HT : Hid (Full w tb 160 7 7 Tk) := hT
  have HO : Hid (w.ownsRow base 155 1 (.slice (some ⟨qb, 0, none⟩) 0 cap) 0 []) := hown
  have HC : Hid (0 < cap) := hcap
  clear hE hT hown hcap hE31 hT3
  go_enter Tryz.func166, Tryz.ntmps166
  go_wp2_with fail
  refine (stepOut_none tb w c3).mono ?_
  rintro e w1 ⟨rfl, rfl⟩
  go_wp2_with fail
  have hk : ∀ k, (Value.slice (some ⟨qb, 0, none⟩) 0 cap).ownBlock = some k → k ≠ eb ∧ k ≠ tb ∧ k < w1.heap.size := fun k hk => ⟨own_ne HO.out HE.out (by decide) k hk, own_ne HO.out HT.out (by decide) k hk, (own_ty HO.out k hk).2.1⟩
  refine (sinsert_room qb cap base w1.heap.size (P0 tb) rfl _ (own_of HO.out (fun k h => ?_)) (by simp [go_sem]) (by simp [World.setCell]; omega) HC.out).mono ?_
  · rw [Below.heap_alloc _ _ _ (by simp [World.setCell]; exact (hk k h).2.2), Below.heap_setCell _ _ _ _ (hk k h).2.1, Below.heap_setCell _ _ _ _ (hk k h).2.1]
  rintro e w2 ⟨rfl, ho2, hg2⟩
  have hz := hg2.size
  simp [World.setCell] at hz
  have HE2 : Hid (Full w2 eb 144 44 44 E) := (((HE.out.off ne).off ne).block (Below.heap_alloc _ _ _ (by simp [World.setCell]; omega))).block (hg2.block eb (by simp [World.setCell]; omega) (fun h => (hk eb h.symm).1 rfl))
  have HT2 : Hid (Full w2 tb 160 7 7 (upd (upd Tk 2 (.bool false)) 3 (Pt eb 32))) := (((HT.out.upd 2 _).upd 3 _).block (Below.heap_alloc _ _ _ (by simp [World.setCell]; omega))).block (hg2.block tb (by simp [World.setCell]; omega) (fun h => (hk tb h.symm).2.1 rfl))
  have KO : Hid (Only (fun k => k = eb ∨ k = tb ∨ (Value.slice (some ⟨qb, 0, none⟩) 0 cap).ownBlock = some k) w1 w2) := by
    refine Only.trans (S1 := fun k => (Value.slice (some ⟨qb, 0, none⟩) 0 cap).ownBlock = some k) (w1 := ((w1.setCell ⟨tb, 2, none⟩ (.bool false)).setCell ⟨tb, 3, none⟩ (Pt eb 32)).alloc (.cells #[P0 tb] 155)) ?_ ⟨hg2.os, hg2.tape, hg2.output, hg2.size, fun k hk hn => hg2.block k hk (fun e => hn e.symm)⟩ (fun k h _ => Or.inr (Or.inr h))
    exact only_alloc (only_setCell (only_setCell (only_refl _ _) (Or.inl (Or.inr (Or.inl rfl))) _) (Or.inl (Or.inr (Or.inl rfl))) _) _
  have KW : Hid (w2.ownsRow base 155 1 (.slice (some ⟨qb, 0, none⟩) 1 cap) 1 [P0 tb]) := ho2
  obtain ⟨d31, e31⟩ := HE2.out.cells 32 (by omega)
  have le2 : eb < w2.heap.size := by omega
  generalize E 32 = y31 at d31
  clear hg2 ho2 c31 z31 c2 z2 c3 z3
  go_wp2_with fail
  go_end0
  refine ⟨rfl, own_of KW.out (fun k h => ?_), HE2.out.upd 32 _, HT2.out.off (fun e => ne e.symm), only_setCell KO.out (Or.inl (Or.inl rfl)) _⟩
  exact Below.heap_setCell _ _ _ _ (own_ne KW.out HE2.out (by decide) k h)

set_option maxRecDepth 100000 in
theorem join_room (eb tb qb cap base : Nat) (E Tk : Nat → Value) (w : World) (hE : Full w eb 144 44 44 E) (hE31 : E 32 = .slice (some ⟨qb, 0, none⟩) 0 cap) (hT : Full w tb 160 7 7 Tk) (hT3 : Tk 3 = .pointer none)
    (hown : w.ownsRow base 155 1 (.slice (some ⟨qb, 0, none⟩) 0 cap) 0 []) (hcap : 0 < cap) (hb : base ≤ w.heap.size) :
    Calls Tryz.prog 110 #[Pt eb 32, P0 tb] w fun e w' => e = .returned (.tuple #[]) ∧ w'.ownsRow base 155 1 (.slice (some ⟨qb, 0, none⟩) 1 cap) 1 [P0 tb] ∧ Full w' eb 144 44 44 (upd E 32 (.slice (some ⟨qb, 0, none⟩) 1 cap)) ∧ Full w' tb 160 7 7 (upd (upd Tk 2 (.bool false)) 3 (Pt eb 32)) ∧ Only (fun k => k = eb ∨ k = tb ∨ (Value.slice (some ⟨qb, 0, none⟩) 0 cap).ownBlock = some k) w w' := by
  have HI := hid (insert_room eb tb qb cap base E Tk w hE hE31 hT hT3 hown hcap hb)
  have c31 := hE.cell 32 (by omega)
  rw [hE31] at c31
  clear hE hT hown hcap hE31 hT3
  go_enter Tryz.func110, Tryz.ntmps110
  go_wp2_with fail
  refine HI.out.mono ?_
  rintro e w1 ⟨rfl, h⟩
  have HH := hid h
  clear h
  go_wp2_with fail
  go_end0
  exact ⟨rfl, HH.out⟩

end Go.Proofs.YtnjiinbhbjpfkaaGreatDoor

/-
  The time, and how it goes on; lists in which nothing is found.
-/
namespace Go.Proofs.YtnjiinbhbjpfkaaGreatDoor
open Go.RowKit

/-- The time so many ticks later. -/
def B.aft (c t : Int) : Int := if t ≤ 0 then c else if t ≤ 9223372036854775807 - c then c + t else 9223372036854775807
theorem B.aft_in {c t : Int} (h0 : 0 ≤ c) (h1 : c ≤ 9223372036854775807) : 0 ≤ B.aft c t ∧ B.aft c t ≤ 9223372036854775807 := by
  unfold B.aft
  split
  · omega
  · split <;> omega

set_option maxRecDepth 100000 in
theorem after_gen (eb : Nat) (c t : Int) (w : World) (h : w.cell? ⟨eb, 28, none⟩ = some (.int .i64 c)) (h0 : 0 ≤ c) (h1 : c ≤ 9223372036854775807) :
    Calls Tryz.prog 64 #[P0 eb, .int .i64 t] w fun e w' => e = .returned (.int .i64 (B.aft c t)) ∧ w' = w := by
  generalize hy : B.aft c t = y
  have HY := hid hy
  clear hy
  have hw1 : IntKind.i64.wrap (9223372036854775807 - c) = 9223372036854775807 - c := by simp [IntKind.wrap, IntKind.bits, IntKind.signed]; omega
  by_cases ht : t < 0
  · have hy0 : y = c := by rw [← HY.out]; unfold B.aft; rw [if_pos (by omega)]
    subst hy0
    have hl : (0 : Int) ≤ 9223372036854775807 - y := by omega
    have hl2 : ¬ (9223372036854775807 - y < 0) := by omega
    clear HY
    go_enter Tryz.func64, Tryz.ntmps64
    go_wp2_with fail
    go_ret
    exact ⟨rfl, rfl⟩
  · by_cases hl : t ≤ 9223372036854775807 - c
    · have hy0 : c + t = y := by
        rw [← HY.out]; unfold B.aft
        by_cases h : t ≤ 0
        · rw [if_pos h]; omega
        · rw [if_neg h, if_pos hl]
      have hl2 : ¬ (9223372036854775807 - c < t) := by omega
      have hw2 : IntKind.i64.wrap (c + t) = c + t := by simp [IntKind.wrap, IntKind.bits, IntKind.signed]; omega
      clear HY
      go_enter Tryz.func64, Tryz.ntmps64
      go_wp2_with fail
      go_ret
      exact ⟨by rw [← hy0]; rfl, rfl⟩
    · have hy0 : c + (9223372036854775807 - c) = y := by
        rw [← HY.out]; unfold B.aft
        rw [if_neg (by omega), if_neg hl]; omega
      have hl2 : 9223372036854775807 - c < t := by omega
      have hw2 : IntKind.i64.wrap (c + (9223372036854775807 - c)) = c + (9223372036854775807 - c) := by simp [IntKind.wrap, IntKind.bits, IntKind.signed]; omega
      clear HY
      go_enter Tryz.func64, Tryz.ntmps64
      go_wp2_with fail
      go_ret
      exact ⟨by rw [← hy0]; rfl, rfl⟩

set_option maxRecDepth 100000 in
theorem now_any (op a b c fb tb eb : Nat) (x : Int) (w : World) (h : w.cell? ⟨eb, 28, none⟩ = some (.int .i64 x)) (le : eb < w.heap.size) :
    Calls Tryz.prog 117 #[stepV op a b c fb tb eb] w fun e w' => e = .returned (vA (0, x)) ∧ w.grownBy w' none := by
  have l1 : eb < w.heap.size + 1 := by omega
  have l2 : eb < w.heap.size + 1 + 1 := by omega
  go_enter Tryz.func117, Tryz.ntmps117
  go_wp2_with fail
  refine (number_any x _).mono ?_
  rintro e w2 ⟨rfl, rfl⟩
  go_wp2_with fail
  refine bodyPost_ret (v := vA (0, x)) (by simp [results, Tryz.results117, go_sem]) rfl ⟨rfl, ?_⟩
  repeat (first | exact grown_refl _ _ | refine grown_alloc ?_ _ | refine grown_setCell ?_ (Or.inr (by simp)) _)

set_option maxRecDepth 100000 in
theorem indexF_none (f : Value) (ad : Option Addr) (c : Nat) (w : World) : Calls Tryz.prog 205 #[.slice ad 0 c, f] w fun e w' => e = .returned (.int .i64 (-1)) ∧ w' = w := by
  go_enter Tryz.func205, Tryz.ntmps205
  go_wp2_with fail
  go_loopw [8] (fun i wr => i = .int .i64 0 ∧ wr = w) (fun _ _ => 0)
  case atStart => exact ⟨rfl, rfl⟩
  case round =>
    obtain ⟨rfl, rfl⟩ := hrel
    go_wp2_with fail
    go_ret
    exact ⟨rfl, rfl⟩
end Go.Proofs.YtnjiinbhbjpfkaaGreatDoor

/-
  What lies in the memory of a machine of one task between two instructions; and that it stays where other blocks are written.
-/
namespace Go.Proofs.YtnjiinbhbjpfkaaGreatDoor
open Go.RowKit

/-- Where the parts of a machine lie. -/
structure Geo where
  eb : Nat
  tb : Nat
  lb : Nat
  cl : Nat
  ob : Nat
  co : Nat
  xe : Nat
  xt : Nat
  kb : Nat
  ck : Nat
  fb : Nat
  cb : Nat
  rb : Nat
  nr : Nat
  sb : Nat
  pb : Nat
  n : Nat
  ac : Nat
  wk : Nat
  clk : Int
  sa : Option Addr
  sc : Nat

def kty (w : World) (k : Nat) : TypeId := match w.heap[k]? with | some (.cells _ T _) => T | _ => 0
theorem kty_of {w : World} {k : Nat} {cur : Array Value} {T : TypeId} {f : Nat × Nat} (h : w.heap[k]? = some (.cells cur T f)) : kty w k = T := by unfold kty; rw [h]
theorem kty_full {w : World} {g n m : Nat} {T : TypeId} {P : Nat → Value} (h : Full w g T n m P) : kty w g = T := by obtain ⟨cur, h, _⟩ := h; exact kty_of h
theorem kty_own {w : World} {base size n : Nat} {e : TypeId} {v : Value} {xs : List Value} (h : w.ownsRow base e size v n xs) {k : Nat} (hk : v.ownBlock = some k) : kty w k = e := by obtain ⟨_, _, cur, h⟩ := own_ty h k hk; exact kty_of h

/-- The instructions as they lie in memory. -/
def cdP (C : List B.In) : Nat → Value := fun j => .int .u8 (((flat C).getD j 0 : Nat) : Int)

/-- What no instruction writes. -/
structure Kon (w : World) (g : Geo) (C : List B.In) (Tk : Nat → Value) : Prop where
  hT : Full w g.tb 160 7 7 Tk
  t0 : Tk 0 = .int .i64 1
  t1 : Tk 1 = .slice (some ⟨g.kb, 0, none⟩) 1 g.ck
  t6 : Tk 6 = .slice none 0 0
  o28 : w.ownsRow 0 155 1 (.slice (some ⟨g.lb, 0, none⟩) 1 g.cl) 1 [P0 g.tb]
  o29 : w.ownsRow 0 149 2 (.slice (some ⟨g.ob, 0, none⟩) 1 g.co) 1 [.int .i64 0, .int .i64 0]
  oK : w.ownsRow 0 184 1 (.slice (some ⟨g.kb, 0, none⟩) 1 g.ck) 1 [P0 g.fb]
  hxe : w.heap[g.xe]? = some (.cells #[P0 g.eb] 95 (0, 0))
  hxt : w.heap[g.xt]? = some (.cells #[P0 g.tb] 155 (0, 0))
  hC : Full w g.cb 183 (C.length * 4) (C.length * 4) (cdP C)
  hA : ∀ k x, (actB (g.ac + 1))[k]? = some x → w.heap[g.ac + 1 + k]? = some (.cells #[x.1] x.2 (0, 0))

/-- The types of blocks that an instruction may write. -/
def KT (T : TypeId) : Prop := T = 144 ∨ T = 149 ∨ T = 228 ∨ T = 48 ∨ T = 241 ∨ T = 207 ∨ T = 275 ∨ T = 4 ∨ T = 3
theorem actB_kt (b k : Nat) (x : Value × TypeId) (h : (actB b)[k]? = some x) : ¬ KT x.2 := by
  have hm := List.mem_of_getElem? h
  have e : (actB b).map (·.2) = [187, 199, 187, 199, 190, 190, 190, 190, 187, 199, 193, 199, 193, 199, 195, 199, 195, 199, 199, 199, 187, 202, 187, 202, 187, 202, 187, 202, 187, 202, 187, 199] := rfl
  have : ∀ y : TypeId, y ∈ ([187, 199, 187, 199, 190, 190, 190, 190, 187, 199, 193, 199, 193, 199, 195, 199, 195, 199, 199, 199, 187, 202, 187, 202, 187, 202, 187, 202, 187, 202, 187, 199] : List TypeId) → ¬ (y = 144 ∨ y = 149 ∨ y = 228 ∨ y = 48 ∨ y = 241 ∨ y = 207 ∨ y = 275 ∨ y = 4 ∨ y = 3) := by decide
  exact this _ (e ▸ List.mem_map_of_mem hm)

theorem Kon.same {w w' : World} {g : Geo} {C : List B.In} {Tk : Nat → Value} (h : Kon w g C Tk)
    (hk : ∀ k cur T f, w.heap[k]? = some (.cells cur T f) → (k = g.ob ∨ ¬ KT T) → w'.heap[k]? = w.heap[k]?) : Kon w' g C Tk := by
  have hf : ∀ {b n m : Nat} {T : TypeId} {P : Nat → Value}, Full w b T n m P → ¬ KT T → Full w' b T n m P := by
    intro b n m T P h1 h2
    obtain ⟨cur, h3, _⟩ := id h1
    exact h1.block (hk b _ _ _ h3 (Or.inr h2))
  have ho : ∀ {base size n : Nat} {e : TypeId} {v : Value} {xs : List Value}, w.ownsRow base e size v n xs → (∀ k, v.ownBlock = some k → k = g.ob ∨ ¬ KT e) → w'.ownsRow base e size v n xs := by
    intro base size n e v xs h1 h2
    refine own_of h1 (fun k hb => ?_)
    obtain ⟨_, _, cur, h3⟩ := own_ty h1 k hb
    exact hk k _ _ _ h3 (h2 k hb)
  have n1 : ¬ KT 160 := by unfold KT; decide
  have n2 : ¬ KT 155 := by unfold KT; decide
  have n3 : ¬ KT 184 := by unfold KT; decide
  have n4 : ¬ KT 183 := by unfold KT; decide
  have n5 : ¬ KT 95 := by unfold KT; decide
  exact { hT := hf h.hT n1, t0 := h.t0, t1 := h.t1, t6 := h.t6, o28 := ho h.o28 (fun _ _ => Or.inr n2), o29 := ho h.o29 (fun k hb => Or.inl (by injection hb with hb; exact hb.symm)), oK := ho h.oK (fun _ _ => Or.inr n3), hxe := (hk _ _ _ _ h.hxe (Or.inr n5)).trans h.hxe, hxt := (hk _ _ _ _ h.hxt (Or.inr n2)).trans h.hxt, hC := hf h.hC n4, hA := fun k x hx => (hk _ _ _ _ (h.hA k x hx) (Or.inr (actB_kt _ k x hx))).trans (h.hA k x hx) }
theorem Kon.kept {S : Nat → Prop} {w w' : World} {g : Geo} {C : List B.In} {Tk : Nat → Value} (h : Kon w g C Tk) (hO : Only S w w') (hS : ∀ k, S k → k < w.heap.size → k ≠ g.ob ∧ KT (kty w k)) : Kon w' g C Tk :=
  h.same (fun k cur T f h1 h2 => hO.same (heap_lt h1) (fun hs => by
    obtain ⟨a, b⟩ := hS k hs (heap_lt h1)
    rcases h2 with h2 | h2
    · exact a h2
    · rw [kty_of h1] at b; exact h2 b))

/-- The engine's cells that stay. -/
structure Egn (g : Geo) (q : Nat) (E : Nat → Value) : Prop where
  e1 : E 1 = .int .i64 q
  e2 : E 2 = .int .i64 g.wk
  hwk : g.wk ≤ 50
  eA : ∀ j, 4 ≤ j → j < 27 → E j = engF (.slice none 0 0) 0 0 0 g.ac j
  e26 : E 27 = P0 g.sb
  e27 : E 28 = .int .i64 g.clk
  e28 : E 29 = .slice (some ⟨g.lb, 0, none⟩) 1 g.cl
  e29 : E 30 = .slice (some ⟨g.ob, 0, none⟩) 1 g.co
  e30 : E 31 = .slice none 0 0
  e41 : E 42 = .bool false
  hck : 0 ≤ g.clk ∧ g.clk ≤ 9223372036854775807
theorem Egn.upd {g : Geo} {q : Nat} {E : Nat → Value} (h : Egn g q E) (j : Nat) (v : Value) (hj : j = 32 ∨ j = 33 ∨ j = 43) : Egn g q (upd E j v) := by
  have h' : ∀ i, i ≠ 32 → i ≠ 33 → i ≠ 43 → Go.Proofs.YtnjiinbhbjpfkaaGreatDoor.upd E j v i = E i := fun i h1 h2 h3 => upd_off _ _ _ _ (by rcases hj with rfl | rfl | rfl <;> assumption)
  exact { e1 := (h' 1 (by omega) (by omega) (by omega)).trans h.e1, e2 := (h' 2 (by omega) (by omega) (by omega)).trans h.e2, hwk := h.hwk, eA := fun i h1 h2 => (h' i (by omega) (by omega) (by omega)).trans (h.eA i h1 h2), e26 := (h' _ (by omega) (by omega) (by omega)).trans h.e26, e27 := (h' _ (by omega) (by omega) (by omega)).trans h.e27, e28 := (h' _ (by omega) (by omega) (by omega)).trans h.e28, e29 := (h' _ (by omega) (by omega) (by omega)).trans h.e29, e30 := (h' _ (by omega) (by omega) (by omega)).trans h.e30, e41 := (h' _ (by omega) (by omega) (by omega)).trans h.e41, hck := h.hck }

/-- A machine of one task that lives. -/
structure Run (w : World) (g : Geo) (C : List B.In) (q : Nat) (kd : B.Kd) (vb : Vs) (s : B.St) (E Tk : Nat → Value) : Prop where
  hK : Kon w g C Tk
  hE : Full w g.eb 144 44 44 E
  eE : Egn g q E
  hF : Fr w g.fb g.cb C.length s.1 g.rb g.nr (Fv 120 #[P0 g.xe, P0 g.xt]) s.2.1
  hS : Str w g.sb g.pb g.eb g.n kd vb s.2.2
  hH : B.Held kd g.nr g.n s
  ok : okCode2 g.nr C
  hn : 1 ≤ g.n ∧ g.n ≤ 200
  hp : s.1 ≤ C.length
  hvr : ∀ k, Own g.n kd vb k → k ≠ g.rb ∧ k ≠ g.ob
  hro : g.rb ≠ g.ob

/-- The events of a turn so far; the queue, which is empty while the task runs. -/
structure Mid (w : World) (g : Geo) (E Tk : Nat → Value) (bs qb cq : Nat) (ad : Option Addr) (ne cap : Nat) (ev : List B.Ev) : Prop where
  t2 : Tk 2 = .bool true
  t3 : Tk 3 = .pointer none
  e31 : E 32 = .slice (some ⟨qb, 0, none⟩) 0 cq
  o31 : w.ownsRow 0 155 1 (.slice (some ⟨qb, 0, none⟩) 0 cq) 0 []
  e42 : E 43 = .slice ad ne cap
  o42 : w.ownsRow bs 48 3 (.slice ad ne cap) ne (evL ev)
  hb : bs ≤ w.heap.size
  e32 : E 33 = .slice g.sa 0 g.sc
  o32 : w.ownsRow 0 155 1 (.slice g.sa 0 g.sc) 0 []
  h32 : g.sa ≠ none → 0 < g.sc
  n32 : ∀ k, (Value.slice g.sa 0 g.sc).ownBlock = some k → k ≠ g.lb ∧ k ≠ g.xt ∧ k ≠ qb
  nqb : qb ≠ g.lb ∧ qb ≠ g.xt
  hcq : 0 < cq

/-- The blocks that an instruction may write. -/
def Wr (g : Geo) (kd : B.Kd) (vb : Vs) (qb : Nat) (ad : Option Addr) (ne cap : Nat) (k : Nat) : Prop :=
  k = g.eb ∨ k = g.tb ∨ k = g.lb ∨ k = g.ob ∨ k = g.kb ∨ k = g.fb ∨ k = g.rb ∨ Sbk g.sb g.pb g.n kd vb k ∨ (Value.slice ad ne cap).ownBlock = some k ∨ (Value.slice g.sa 0 g.sc).ownBlock = some k ∨ k = qb

/-- An engine whose task runs no more: 1: it has ended; 2: no cell was free. -/
def Off (clk : Int) (E : Nat → Value) (r : Nat) : Prop := E 28 = .int .i64 clk ∧ (r = 1 → (∃ a c, E 29 = .slice a 0 c) ∧ E 42 = .bool false) ∧ (r = 2 → (∃ a n c, E 29 = .slice a n c) ∧ E 42 = .bool true)

/-- A machine whose task sleeps, until a time. -/
structure Zzz (w : World) (g : Geo) (C : List B.In) (q : Nat) (kd : B.Kd) (vb : Vs) (s : B.St) (E Tk : Nat → Value) (qb cq zb zc : Nat) (U : Int) : Prop where
  hR : Run w g C q kd vb s E Tk
  t2 : Tk 2 = .bool false
  t3 : Tk 3 = Pt g.eb 33
  t5 : Tk 5 = .int .i64 U
  e31 : E 32 = .slice (some ⟨qb, 0, none⟩) 0 cq
  o31 : w.ownsRow 0 155 1 (.slice (some ⟨qb, 0, none⟩) 0 cq) 0 []
  e32 : E 33 = .slice (some ⟨zb, 0, none⟩) 1 zc
  o32 : w.ownsRow 0 155 1 (.slice (some ⟨zb, 0, none⟩) 1 zc) 1 [P0 g.tb]
  nqb : qb ≠ g.lb ∧ qb ≠ g.xt
  hcq : 0 < cq
  nzb : zb ≠ g.lb ∧ zb ≠ g.xt ∧ zb ≠ qb

/-- What the collector needs behind an instruction, whatever has become of the task. -/
def Wok (w : World) (g : Geo) (kd : B.Kd) (vb : Vs) : Prop := ∃ Q nr s, Rts w Q g.eb g.sb g.pb g.n nr kd vb s
/-- The task waits at the queue's end, which is its beginning. -/
def Yld (w : World) (g : Geo) (C : List B.In) (q : Nat) (kd : B.Kd) (vb : Vs) (s : B.St) (E : Nat → Value) (qb cq : Nat) : Prop :=
  ∃ Tk, Run w g C q kd vb s E Tk ∧ Tk 2 = .bool false ∧ Tk 3 = Pt g.eb 32 ∧ E 32 = .slice (some ⟨qb, 0, none⟩) 1 cq ∧ w.ownsRow 0 155 1 (.slice (some ⟨qb, 0, none⟩) 1 cq) 1 [P0 g.tb] ∧ E 33 = .slice g.sa 0 g.sc ∧ w.ownsRow 0 155 1 (.slice g.sa 0 g.sc) 0 []
/-- What lies in memory behind an instruction. -/
def After (w w' : World) (g : Geo) (C : List B.In) (q : Nat) (kd : B.Kd) (vb : Vs) (Tk : Nat → Value) (bs qb cq : Nat) (ad : Option Addr) (ne cap : Nat) (ev : List B.Ev) (s' : B.St) (kd' : B.Kd) (r : Nat) (ev1 : List B.Ev) : Prop :=
  Only (Wr g kd vb qb ad ne cap) w w' ∧
  ((r = 0 ∧ ∃ vb' E' ad' ne' cap', Run w' g C q kd' vb' s' E' Tk ∧ Mid w' g E' Tk bs qb cq ad' ne' cap' (ev ++ ev1) ∧ ne' ≤ ne + 1 ∧ Grew g.n kd vb kd' vb' w.heap.size) ∨
   (r ≠ 0 ∧ ∃ vb' E' ad' ne' cap', Full w' g.eb 144 44 44 E' ∧ Off g.clk E' r ∧ E' 1 = .int .i64 q ∧ E' 2 = .int .i64 g.wk ∧ E' 27 = P0 g.sb ∧ Wok w' g kd' vb' ∧ Grew g.n kd vb kd' vb' w.heap.size ∧ E' 43 = .slice ad' ne' cap' ∧ w'.ownsRow bs 48 3 (.slice ad' ne' cap') ne' (evL (ev ++ ev1)) ∧ ne' ≤ ne + 1 ∧ w'.cell? ⟨g.tb, 2, none⟩ = some (.bool false) ∧ (r = 4 → ∃ Tk' zb zc U a, C[s'.1 - 1]? = some (17, a, 0, 0) ∧ U = B.aft g.clk (s'.2.1 a).2 ∧ (s'.2.1 a).1 = 0 ∧ Zzz w' g C q kd' vb' s' E' Tk' qb cq zb zc U ∧ ((Value.slice g.sa 0 g.sc).ownBlock = some zb ∨ w.heap.size ≤ zb)) ∧ (r = 5 → Yld w' g C q kd' vb' s' E' qb cq)))
def Acted (w w' : World) (g : Geo) (C : List B.In) (q : Nat) (kd : B.Kd) (vb : Vs) (Tk : Nat → Value) (bs qb cq : Nat) (ad : Option Addr) (ne cap : Nat) (ev : List B.Ev) (s : B.St) (i : B.In) (why : Nat) : Prop :=
  (why = 0 ∧ ∃ s' kd' r ev1, B.Does2 g.clk g.nr g.n i s s' r ev1 ∧ (r = 0 ∨ r = 4 ∨ r = 5 → B.Kdo g.nr g.n i s s' kd kd') ∧ After w w' g C q kd vb Tk bs qb cq ad ne cap ev s' kd' r ev1) ∨
  (1 ≤ why ∧ why ≤ 8 ∧ (∀ s' ev1, B.Does2 g.clk g.nr g.n i s s' 3 ev1) ∧ w.grownBy w' none)

section
variable {w w' : World} {g : Geo} {C : List B.In} {q : Nat} {kd : B.Kd} {vb : Vs} {s : B.St} {E Tk : Nat → Value} {bs qb cq : Nat} {ad : Option Addr} {ne cap : Nat} {ev : List B.Ev}

theorem Str.keep {S : Nat → Prop} {sb pb eb n : Nat} {M : Nat → List B.V} (h : Str w sb pb eb n kd vb M) (hO : Only S w w') (h1 : ¬ S sb) (h2 : ¬ S pb) (h3 : ∀ k, Own n kd vb k → ¬ S k) : Str w' sb pb eb n kd vb M :=
  h.block (hO.same (heap_lt h.b) h1) (hO.same h.p.p.lt h2) (fun k hk => hO.same (h.lt k hk) (h3 k hk))
theorem Fr.keep {S : Nat → Prop} {fb cb L nx rb nr : Nat} {back : Value} {R : Nat → B.V} (h : Fr w fb cb L nx rb nr back R) (hO : Only S w w') (h1 : ¬ S fb) (h2 : ¬ S rb) : Fr w' fb cb L nx rb nr back R :=
  ⟨hO.block h.1 h1, h.2.1.only hO h2, h.2.2⟩
theorem Mid.keep {S : Nat → Prop} (h : Mid w g E Tk bs qb cq ad ne cap ev) (hO : Only S w w') (h1 : ∀ k, kty w k = 155 ∨ kty w k = 48 → ¬ S k) : Mid w' g E Tk bs qb cq ad ne cap ev :=
  { t2 := h.t2, t3 := h.t3, e31 := h.e31, e42 := h.e42, hb := Nat.le_trans h.hb hO.size,
    o31 := own_of h.o31 (fun k hk => hO.same (own_ty h.o31 k hk).2.1 (h1 k (Or.inl (kty_own h.o31 hk)))),
    o42 := own_of h.o42 (fun k hk => hO.same (own_ty h.o42 k hk).2.1 (h1 k (Or.inr (kty_own h.o42 hk)))), e32 := h.e32, h32 := h.h32, n32 := h.n32, nqb := h.nqb, hcq := h.hcq,
    o32 := own_of h.o32 (fun k hk => hO.same (own_ty h.o32 k hk).2.1 (h1 k (Or.inl (kty_own h.o32 hk)))) }

/-- The types of a machine's blocks. -/
theorem Run.ty (h : Run w g C q kd vb s E Tk) : kty w g.eb = 144 ∧ kty w g.tb = 160 ∧ kty w g.fb = 241 ∧ kty w g.rb = 149 ∧ kty w g.sb = 207 ∧ kty w g.pb = 228 ∧ kty w g.lb = 155 ∧ kty w g.ob = 149 ∧ kty w g.kb = 184 ∧ (∀ k, Own g.n kd vb k → kty w k = 149 ∨ kty w k = 275 ∨ kty w k = 4 ∨ kty w k = 3) :=
  ⟨kty_full h.hE, kty_full h.hK.hT, kty_of h.hF.1, kty_full h.hF.2.1, kty_of h.hS.b, kty_full h.hS.p.p, kty_own h.hK.o28 rfl, kty_own h.hK.o29 rfl, kty_own h.hK.oK rfl, fun k hk => by
    obtain ⟨cur, T, h1, h2⟩ := h.hS.ty k hk
    rw [kty_of h1]; exact h2⟩
theorem Run.lt (h : Run w g C q kd vb s E Tk) : g.eb < w.heap.size ∧ g.tb < w.heap.size ∧ g.fb < w.heap.size ∧ g.rb < w.heap.size ∧ g.sb < w.heap.size ∧ g.pb < w.heap.size ∧ g.lb < w.heap.size ∧ g.ob < w.heap.size ∧ g.kb < w.heap.size ∧ g.cb < w.heap.size ∧ (∀ k, Own g.n kd vb k → k < w.heap.size) :=
  ⟨h.hE.lt, h.hK.hT.lt, heap_lt h.hF.1, h.hF.2.1.lt, heap_lt h.hS.b, h.hS.p.p.lt, (own_ty h.hK.o28 _ rfl).2.1, (own_ty h.hK.o29 _ rfl).2.1, (own_ty h.hK.oK _ rfl).2.1, h.hK.hC.lt, h.hS.lt⟩
theorem ne_own {k a : Nat} {T : TypeId} (hk : kty w k = 149 ∨ kty w k = 275 ∨ kty w k = 4 ∨ kty w k = 3) (ha : kty w a = T) (hT : T ≠ 149 ∧ T ≠ 275 ∧ T ≠ 4 ∧ T ≠ 3) : k ≠ a := by
  rintro rfl
  rw [ha] at hk
  rcases hk with h | h | h | h
  · exact hT.1 h
  · exact hT.2.1 h
  · exact hT.2.2.1 h
  · exact hT.2.2.2 h
theorem ne_ty {a b : Nat} {S T : TypeId} (h1 : kty w a = S) (h2 : kty w b = T) (hn : S ≠ T) : a ≠ b := fun e => hn (by rw [← h1, ← h2, e])

/-- Nothing is written. -/
theorem Run.grown (h : Run w g C q kd vb s E Tk) (hg : w.grownBy w' none) : Run w' g C q kd vb s E Tk :=
  { hK := h.hK.kept (S := fun _ => False) (only_none hg) (fun _ hk => hk.elim), hE := h.hE.block (hg.block _ h.hE.lt (by intro e; cases e)), eE := h.eE, hF := h.hF.kept hg, hS := h.hS.kept hg, hH := h.hH, ok := h.ok, hn := h.hn, hp := h.hp, hvr := h.hvr, hro := h.hro }
theorem Mid.grown (h : Mid w g E Tk bs qb cq ad ne cap ev) (hg : w.grownBy w' none) : Mid w' g E Tk bs qb cq ad ne cap ev :=
  h.keep (S := fun _ => False) (only_none hg) (fun _ _ hk => hk)

/-- The registers are written. -/
theorem Run.regs {R : Nat → B.V} (h : Run w g C q kd vb s E Tk) (hg : w.grownBy w' (some g.rb)) (hF : Fr w' g.fb g.cb C.length s.1 g.rb g.nr (Fv 120 #[P0 g.xe, P0 g.xt]) R) (hH : B.Held kd g.nr g.n (s.1, R, s.2.2)) : Run w' g C q kd vb (s.1, R, s.2.2) E Tk := by
  have hO : Only (fun k => k = g.rb) w w' := only_grown hg rfl
  obtain ⟨y1, y2, y3, y4, y5, y6, y7, y8, y9, y10⟩ := h.ty
  exact { hK := h.hK.kept hO (fun k hk _ => by subst hk; exact ⟨h.hro, Or.inr (Or.inl y4)⟩), hE := h.hE.only hO (ne_ty y1 y4 (by decide)), eE := h.eE, hF := hF, hS := h.hS.keep hO (ne_ty y5 y4 (by decide)) (ne_ty y6 y4 (by decide)) (fun k hk => (h.hvr k hk).1), hH := hH, ok := h.ok, hn := h.hn, hp := h.hp, hvr := h.hvr, hro := h.hro }
/-- The place in the function is written. -/
theorem Run.next {y : Nat} (h : Run w g C q kd vb s E Tk) (hg : w.grownBy w' (some g.fb)) (hF : Fr w' g.fb g.cb C.length y g.rb g.nr (Fv 120 #[P0 g.xe, P0 g.xt]) s.2.1) (hy : y ≤ C.length) : Run w' g C q kd vb (y, s.2.1, s.2.2) E Tk := by
  have hO : Only (fun k => k = g.fb) w w' := only_grown hg rfl
  obtain ⟨y1, y2, y3, y4, y5, y6, y7, y8, y9, y10⟩ := h.ty
  exact { hK := h.hK.kept hO (fun k hk _ => by subst hk; exact ⟨ne_ty y3 y8 (by decide), by rw [y3]; unfold KT; decide⟩), hE := h.hE.only hO (ne_ty y1 y3 (by decide)), eE := h.eE, hF := hF, hS := h.hS.keep hO (ne_ty y5 y3 (by decide)) (ne_ty y6 y3 (by decide)) (fun k hk => ne_own (y10 k hk) y3 (by decide)), hH := B.held_at h.hH y, ok := h.ok, hn := h.hn, hp := hy, hvr := h.hvr, hro := h.hro }
theorem Mid.fb (h : Run w g C q kd vb s E Tk) (hm : Mid w g E Tk bs qb cq ad ne cap ev) (hg : w.grownBy w' (some g.fb)) : Mid w' g E Tk bs qb cq ad ne cap ev := by
  obtain ⟨y1, y2, y3, y4, y5, y6, y7, y8, y9, y10⟩ := h.ty
  refine hm.keep (only_grown (S := fun k => k = g.fb) hg rfl) (fun k hk e => ?_)
  subst e; rw [y3] at hk; exact absurd hk (by decide)
theorem Mid.rb (h : Run w g C q kd vb s E Tk) (hm : Mid w g E Tk bs qb cq ad ne cap ev) (hg : w.grownBy w' (some g.rb)) : Mid w' g E Tk bs qb cq ad ne cap ev := by
  obtain ⟨y1, y2, y3, y4, y5, y6, y7, y8, y9, y10⟩ := h.ty
  refine hm.keep (only_grown (S := fun k => k = g.rb) hg rfl) (fun k hk e => ?_)
  subst e; rw [y4] at hk; exact absurd hk (by decide)

/-- What leave needs. -/
theorem Run.leav (h : Run w g C q kd vb s E Tk) (hm : Mid w g E Tk bs qb cq ad ne cap ev) (hne : ne ≤ 100000) : Leav w g.eb g.tb g.lb g.cl g.ob g.co bs ad ne cap ev E Tk :=
  ⟨h.hE, h.hK.hT, h.eE.e28, h.hK.o28, h.eE.e29, h.hK.o29, h.eE.e30, hm.e42, hm.o42, h.hK.t0, hm.t3, h.hK.t6, hm.hb, hne⟩
theorem own_cell {base size n : Nat} {e : TypeId} {g cap : Nat} {x : Value} {xs : List Value} (h : w.ownsRow base e size (.slice (some ⟨g, 0, none⟩) n cap) n (x :: xs)) : w.cell? ⟨g, 0, none⟩ = some x := by
  rcases h.2 with ⟨h, _⟩ | ⟨g', c', cur, h1, _, h2, _, _, h3, h4⟩
  · cases h
  · cases h1
    have : cur[0]? = some x := by
      have := congrArg (fun l => l[0]?) h4
      simp [List.getElem?_take] at this
      exact this.2
    simp [World.cell?, h2, this]
/-- What the collector needs. -/
theorem Run.rts (h : Run w g C q kd vb s E Tk) : Rts w (AlvQ g.eb g.lb g.tb g.kb g.fb g.rb) g.eb g.sb g.pb g.n g.nr kd vb s := by
  obtain ⟨y1, y2, y3, y4, y5, y6, y7, y8, y9, y10⟩ := h.ty
  have hA : Alv w g.eb g.lb g.cl g.tb g.kb g.ck g.fb g.cb C.length s.1 g.rb g.nr (Fv 120 #[P0 g.xe, P0 g.xt]) s.2.1 := ⟨(h.hE.cell 29 (by omega)).trans (by rw [h.eE.e28]), own_cell h.hK.o28, (h.hE.cell 31 (by omega)).trans (by rw [h.eE.e30]), (h.hK.hT.cell 1 (by omega)).trans (by rw [h.hK.t1]), own_cell h.hK.oK, h.hF⟩
  refine ⟨vis_alive _ _ _ _ _ _ _ _ _ _ _ _ _ _ w hA h.ok.2.1, fun k hk => ⟨hA.lt k hk, ?_⟩, h.hS, h.hH, h.hn.1, h.hn.2⟩
  rcases hk with rfl | rfl | rfl | rfl | rfl | rfl
  · exact ne_ty y1 y5 (by decide)
  · exact ne_ty y7 y5 (by decide)
  · exact ne_ty y2 y5 (by decide)
  · exact ne_ty y9 y5 (by decide)
  · exact ne_ty y3 y5 (by decide)
  · exact ne_ty y4 y5 (by decide)
end
end Go.Proofs.YtnjiinbhbjpfkaaGreatDoor

/-
  The instruction Cell, as it stands in the table.
-/
namespace Go.Proofs.YtnjiinbhbjpfkaaGreatDoor
open Go.RowKit

set_option maxRecDepth 100000 in
set_option maxHeartbeats 1000000 in
theorem act9_any (Q : Nat → Prop) (op a b c eb tb fb cb L nx rb nr base vbx wb : Nat) (back : Value) (sb pb n : Nat) (kd : B.Kd) (vb : Vs) (s : B.St) (ad : Option Addr) (ne cap : Nat) (ev : List B.Ev) (E Tk : Nat → Value) (w : World)
    (hR : Rts w Q eb sb pb n nr kd vb s) (hFr : Fr w fb cb L nx rb nr back s.2.1) (hb8 : b ≤ 8) (ha : a < nr) (hE : Full w eb 144 44 44 E) (hT : Full w tb 160 7 7 Tk) (h26 : E 27 = P0 sb) (h42 : E 43 = .slice ad ne cap) (o42 : w.ownsRow base 48 3 (.slice ad ne cap) ne (evL ev)) (t0 : Tk 0 = .int .i64 1) (hbs : base ≤ w.heap.size) (hne : ne ≤ 100000)
    (hvr : ∀ k, Own n kd vb k → k ≠ rb) (hv : w.heap[vbx]? = some (.cells #[Fv 100 #[]] 195 (0, 0))) (hw : w.heap[wb]? = some (.cells #[Fv 155 #[P0 vbx]] 199 (0, 0))) :
    Calls Tryz.prog 163 #[stepV op a b c fb tb eb, P0 wb] w fun e w' => e = .returned (.int .i64 0) ∧ Celled w w' a b eb tb fb cb L nx rb nr sb pb n base back kd vb s ad ne cap ev E Tk := by
  have KR := hid hR
  have KFr := hid hFr
  have KE := hid hE
  have KT := hid hT
  have HF := hid (And.intro h26 (And.intro h42 (And.intro o42 t0)))
  have HV := hid hv
  have HVR := hid hvr
  have c0 : w.cell? ⟨wb, 0, none⟩ = some (Fv 155 #[P0 vbx]) := by simp [World.cell?, hw]
  have lw := heap_lt hw
  clear hR hFr hE hT h26 h42 o42 t0 hv hw hvr
  go_enter Tryz.func163, Tryz.ntmps163
  go_wp2_with fail
  have KG1 := hid (World.grownBy_alloc w (.cells #[.int .u8 (op : Int), .int .u8 (a : Int), .int .u8 (b : Int), .int .u8 (c : Int), P0 fb, P0 tb, P0 eb] 186) none)
  have hk : ∀ k, k < w.heap.size → (w.alloc (.cells #[.int .u8 (op : Int), .int .u8 (a : Int), .int .u8 (b : Int), .int .u8 (c : Int), P0 fb, P0 tb, P0 eb] 186)).heap[k]? = w.heap[k]? := fun k hk => KG1.out.block k hk (by intro e; cases e)
  refine (makes93_any Q op a b c eb tb fb cb L nx rb nr base vbx back sb pb n kd vb s ad ne cap ev E Tk _ (KR.out.kept KG1.out) (KFr.out.kept KG1.out) hb8 ha (KE.out.block (hk _ KE.out.lt)) (KT.out.block (hk _ KT.out.lt)) HF.out.1 HF.out.2.1 (own_of HF.out.2.2.1 (fun k h => hk k (own_ty HF.out.2.2.1 k h).2.1)) HF.out.2.2.2 (by simp; omega) hne HVR.out (grown_out KG1.out HV.out)).mono ?_
  rintro e w3 ⟨rfl, hC⟩
  have HR := hid (Celled.pre KG1.out hC)
  clear hC hk
  go_wp2_with fail
  go_ret
  exact ⟨rfl, HR.out⟩
end Go.Proofs.YtnjiinbhbjpfkaaGreatDoor

/-
  A slot of a cell is found, or why there is none.
-/
namespace Go.Proofs.YtnjiinbhbjpfkaaGreatDoor
open Go.RowKit

/-- There is such a slot. -/
def okSlot (M : Nat → List B.V) (x y : B.V) : Prop := x.1 ≠ 0 ∧ y.1 = 0 ∧ 0 ≤ y.2 ∧ y.2 < ((M x.1).length : Int)
def Slotted (M : Nat → List B.V) (x y : B.V) (v : Value) : Prop :=
  (okSlot M x y ∧ v = .tuple #[.int .i64 y.2, .int .i64 0]) ∨ (¬ okSlot M x y ∧ ∃ why : Nat, 1 ≤ why ∧ why ≤ 8 ∧ v = .tuple #[.int .i64 0, .int .i64 why])

set_option maxRecDepth 100000 in
set_option maxHeartbeats 2000000 in
theorem slot_any (op a b c fb tb eb sb pb n : Nat) (x y : B.V) (kd : B.Kd) (vb : Vs) (M : Nat → List B.V) (w : World) (hS : Str w sb pb eb n kd vb M) (hn : n ≤ 200) (hx : B.Vok kd.on n x) (h26 : w.cell? ⟨eb, 27, none⟩ = some (P0 sb)) (le : eb < w.heap.size) :
    Calls Tryz.prog 158 #[stepV op a b c fb tb eb, vA x, vA y] w fun e w' => ∃ v, e = .returned v ∧ w.grownBy w' none ∧ Slotted M x y v := by
  have KS := hid hS
  have HX := hid hx
  obtain ⟨y1, y2⟩ := y
  have hl8 : x.1 ≠ 0 → (M x.1).length ≤ 8 := fun h0 => by
    rcases hx with h | h
    · exact absurd h h0
    · exact hS.p.l _ h.2.2.1
  clear hS hx
  go_enter Tryz.func158, Tryz.ntmps158
  go_wp2_with fail
  generalize hW : ((w.alloc (.cells #[.int .u8 (op : Int), .int .u8 (a : Int), .int .u8 (b : Int), .int .u8 (c : Int), P0 fb, P0 tb, P0 eb] 186)).alloc (.cells #[.int .i64 (x.1 : Int), .int .i64 x.2] 149)).alloc (.cells #[.int .i64 (y1 : Int), .int .i64 y2] 149) = w1
  have KG1 : Hid (w.grownBy w1 none) := by rw [← hW]; exact grown_alloc (grown_alloc (World.grownBy_alloc _ _ _) _) _
  have hx1 : w1.heap[w.heap.size]? = some (stpB op a b c fb tb eb) := by rw [← hW, Below.heap_alloc _ _ _ (by simp; omega), Below.heap_alloc _ _ _ (by simp)]; exact heap_alloc_new w _
  have hx2 : w1.heap[w.heap.size + 1]? = some (.cells #[.int .i64 (x.1 : Int), .int .i64 x.2] 149 (0, 0)) := by
    rw [← hW, Below.heap_alloc _ _ _ (by simp)]
    have := heap_alloc_new (w.alloc (.cells #[.int .u8 (op : Int), .int .u8 (a : Int), .int .u8 (b : Int), .int .u8 (c : Int), P0 fb, P0 tb, P0 eb] 186)) (.cells #[.int .i64 (x.1 : Int), .int .i64 x.2] 149)
    simpa using this
  have hx3 : w1.heap[w.heap.size + 1 + 1]? = some (.cells #[.int .i64 (y1 : Int), .int .i64 y2] 149 (0, 0)) := by
    rw [← hW]
    have := heap_alloc_new ((w.alloc (.cells #[.int .u8 (op : Int), .int .u8 (a : Int), .int .u8 (b : Int), .int .u8 (c : Int), P0 fb, P0 tb, P0 eb] 186)).alloc (.cells #[.int .i64 (x.1 : Int), .int .i64 x.2] 149)) (.cells #[.int .i64 (y1 : Int), .int .i64 y2] 149)
    simpa using this
  clear hW
  have H3 := hid hx3
  have x6 := (s7_of hx1).2.2.2.2.2.2
  have c0 : w1.cell? ⟨w.heap.size + 1, 0, none⟩ = some (.int .i64 (x.1 : Int)) := by simp [World.cell?, hx2]
  have c1 : w1.cell? ⟨w.heap.size + 1, 1, none⟩ = some (.int .i64 x.2) := by simp [World.cell?, hx2]
  obtain ⟨d26, _⟩ := grown_cell KG1.out (a := ⟨eb, 27, none⟩) le
  rw [h26] at d26
  have lx1 := heap_lt hx1
  have lx2 := heap_lt hx2
  have lx3 := heap_lt hx3
  have le1 : eb < w1.heap.size := by have := KG1.out.size; omega
  clear hx1 hx2 hx3
  have HS : Hid (∀ w' : World, w1.grownBy w' none → w'.cell? ⟨w.heap.size, 6, none⟩ = some (P0 eb) ∧ w'.cell? ⟨eb, 27, none⟩ = some (P0 sb) ∧ w'.cell? ⟨w.heap.size + 1, 0, none⟩ = some (.int .i64 (x.1 : Int)) ∧ w'.cell? ⟨w.heap.size + 1, 1, none⟩ = some (.int .i64 x.2)) :=
    fun w' hg => ⟨(grown_cell hg (a := ⟨w.heap.size, 6, none⟩) lx1).1.trans x6, (grown_cell hg (a := ⟨eb, 27, none⟩) le1).1.trans d26, (grown_cell hg (a := ⟨w.heap.size + 1, 0, none⟩) lx2).1.trans c0, (grown_cell hg (a := ⟨w.heap.size + 1, 1, none⟩) lx2).1.trans c1⟩
  go_region_held3 (fun w' => w'.cell? ⟨w.heap.size, 6, none⟩ = some (P0 eb) ∧ w'.cell? ⟨eb, 27, none⟩ = some (P0 sb) ∧ w'.cell? ⟨w.heap.size + 1, 0, none⟩ = some (.int .i64 (x.1 : Int)) ∧ w'.cell? ⟨w.heap.size + 1, 1, none⟩ = some (.int .i64 x.2)) (first | exact HS.out _ (grown_drew (grown_refl _ _)) | exact HS.out _ HG2.out) (first | (go_at_call 200; refine (slots_any sb pb eb n x kd vb M w1.drew (KS.out.kept (grown_drew KG1.out)) hn HX.out).mono ?_; rintro e w2 ⟨hg2, hc⟩; have HG2 : Hid (w1.grownBy w2 none) := ⟨hg2.os, hg2.tape, hg2.output, hg2.size, hg2.block⟩; obtain ⟨n2, ob, rfl, hcc⟩ : ∃ (n2 : Int) (ob : Bool), e = .returned (.tuple #[.int .i64 n2, .bool ob]) ∧ ((x.1 = 0 ∧ ob = false) ∨ (x.1 ≠ 0 ∧ ob = true ∧ n2 = ((M x.1).length : Int))) := (by rcases hc with ⟨h1, h2⟩ | ⟨h1, h2⟩; exact ⟨_, _, h2, Or.inl ⟨h1, rfl⟩⟩; exact ⟨_, _, h2, Or.inr ⟨h1, rfl, rfl⟩⟩); have HCC := hid hcc; clear hc hcc hg2))
  all_goals
    have hx3 := grown_out HG2.out H3.out
    have e0 : w2.cell? ⟨w.heap.size + 1 + 1, 0, none⟩ = some (.int .i64 (y1 : Int)) := by simp [World.cell?, hx3]
    have e1 : w2.cell? ⟨w.heap.size + 1 + 1, 1, none⟩ = some (.int .i64 y2) := by simp [World.cell?, hx3]
    have le3 := heap_lt hx3
    have KG2 := hid (grown_trans KG1.out HG2.out)
    clear hx3 x6 c0 c1 d26
    rcases HCC.out with ⟨h1, rfl⟩ | ⟨h1, rfl, rfl⟩
    · have HP := hid (show ¬ okSlot M x (y1, y2) from fun h => h.1 h1)
      clear h1 hl8
      go_wp2_with fail
      go_ret2
      exact ⟨_, rfl, KG2.out, Or.inr ⟨HP.out, 2, by omega, by omega, rfl⟩⟩
    · have hl := hl8 h1
      have H1 := hid h1
      clear hl8 h1
      go_wp2_with fail
      refine (vnumber_any (y1, y2) _).mono ?_
      rintro e w3 ⟨rfl, hg3⟩
      have KG3 := hid (grown_trans KG2.out hg3)
      clear hg3 e0 e1
      generalize hln : (M x.1).length = ln at *
      have HLN := hid hln
      clear hln
      by_cases hy : y1 = 0
      · have hd : decide (y1 = 0) = true := by simpa using hy
        simp only [hd]
        by_cases h0 : y2 < 0
        · have HP := hid (show ¬ okSlot M x (y1, y2) from fun h => by have : (0 : Int) ≤ y2 := h.2.2.1; omega)
          have hneg : decide (y2 < 0) = true := by simpa using h0
          clear hy hd
          go_wp2_with fail
          go_ret2
          exact ⟨_, rfl, KG3.out, Or.inr ⟨HP.out, 3, by omega, by omega, rfl⟩⟩
        · obtain ⟨i, hi⟩ : ∃ i : Nat, y2 = i := ⟨y2.toNat, by omega⟩
          subst hi
          by_cases hlt : i < ln
          · have HP := hid (show okSlot M x (y1, (i : Int)) from ⟨H1.out, hy, by show (0 : Int) ≤ (i : Int); omega, by show (i : Int) < _; rw [HLN.out]; omega⟩)
            have hli : (i : Int) < (ln : Int) := by omega
            have hge : decide ((ln : Int) ≤ (i : Int)) = false := by simp; omega
            have hng : decide ((i : Int) < 0) = false := by simp
            clear hy hd h0
            go_wp2_with fail
            go_ret2
            exact ⟨_, rfl, KG3.out, Or.inl ⟨HP.out, rfl⟩⟩
          · have HP := hid (show ¬ okSlot M x (y1, (i : Int)) from fun h => by have : (i : Int) < _ := h.2.2.2; rw [HLN.out] at this; omega)
            have hge : decide ((ln : Int) ≤ (i : Int)) = true := by simp; omega
            have hng : decide ((i : Int) < 0) = false := by simp
            have hge2 : (ln : Int) ≤ (i : Int) := by omega
            clear hy hd h0
            go_wp2_with fail
            go_ret2
            exact ⟨_, rfl, KG3.out, Or.inr ⟨HP.out, 3, by omega, by omega, rfl⟩⟩
      · have hd : decide (y1 = 0) = false := by simpa using hy
        simp only [hd]
        have HP := hid (show ¬ okSlot M x (y1, y2) from fun h => hy h.2.1)
        clear hy hd
        go_wp2_with fail
        go_ret2
        exact ⟨_, rfl, KG3.out, Or.inr ⟨HP.out, 1, by omega, by omega, rfl⟩⟩
end Go.Proofs.YtnjiinbhbjpfkaaGreatDoor

/-
  The instructions Get and Put.
-/
namespace Go.Proofs.YtnjiinbhbjpfkaaGreatDoor
open Go.RowKit

set_option maxRecDepth 100000 in
set_option maxHeartbeats 2000000 in
/-- Get. -/
theorem act10_any (op a b c fb tb eb cb L nx rb nr sb pb n : Nat) (back : Value) (kd : B.Kd) (vb : Vs) (s : B.St) (w : World) (hF : Fr w fb cb L nx rb nr back s.2.1) (hS : Str w sb pb eb n kd vb s.2.2) (hH : B.Held kd nr n s) (hn : n ≤ 200) (ha : a < nr) (hb : b < nr) (hc : c < nr) (h26 : w.cell? ⟨eb, 27, none⟩ = some (P0 sb)) (le : eb < w.heap.size) (her : eb ≠ rb) :
    Calls Tryz.prog 101 #[stepV op a b c fb tb eb] w fun e w' => (okSlot s.2.2 (s.2.1 b) (s.2.1 c) ∧ e = .returned (.int .i64 0) ∧ w.grownBy w' (some rb) ∧ Fr w' fb cb L nx rb nr back (B.set s.2.1 a ((s.2.2 (s.2.1 b).1).getD (s.2.1 c).2.toNat (0, 0)))) ∨ (¬ okSlot s.2.2 (s.2.1 b) (s.2.1 c) ∧ ∃ why : Nat, 1 ≤ why ∧ why ≤ 8 ∧ e = .returned (.int .i64 why) ∧ w.grownBy w' none) := by
  have KF := hid hF
  have KS := hid hS
  have HH := hid hH
  have HER : Hid (eb ≠ rb) := her
  clear hF hS hH her
  go_enter Tryz.func101, Tryz.ntmps101
  go_wp2_with fail
  have HX1 := hid (s7_new w op a b c fb tb eb)
  have KG1 := hid (World.grownBy_alloc w (.cells #[.int .u8 (op : Int), .int .u8 (a : Int), .int .u8 (b : Int), .int .u8 (c : Int), P0 fb, P0 tb, P0 eb] 186) none)
  generalize hW : w.alloc (.cells #[.int .u8 (op : Int), .int .u8 (a : Int), .int .u8 (b : Int), .int .u8 (c : Int), P0 fb, P0 tb, P0 eb] 186) = w1 at *
  have hz1 : w1.heap.size = w.heap.size + 1 := by rw [← hW]; simp
  clear hW
  go_region_held3 (fun w' => w'.cell? ⟨w.heap.size, 0, none⟩ = some (.int .u8 (op : Int)) ∧ w'.cell? ⟨w.heap.size, 1, none⟩ = some (.int .u8 (a : Int)) ∧ w'.cell? ⟨w.heap.size, 2, none⟩ = some (.int .u8 (b : Int)) ∧ w'.cell? ⟨w.heap.size, 3, none⟩ = some (.int .u8 (c : Int)) ∧ w'.cell? ⟨w.heap.size, 4, none⟩ = some (P0 fb) ∧ w'.cell? ⟨w.heap.size, 5, none⟩ = some (P0 tb) ∧ w'.cell? ⟨w.heap.size, 6, none⟩ = some (P0 eb)) (first | exact s7_of HX1.out | exact s7_of HX2.out | exact s7_of HX3.out | exact s7_of HX4.out) (first | (go_at_call 86; refine (b_any op a b c fb tb eb cb L nx rb nr back s.2.1 w1.drew (KF.out.kept (grown_drew KG1.out)).1 (KF.out.kept (grown_drew KG1.out)).2.1 hb).mono ?_; rintro e w2 ⟨rfl, hg2⟩; have KG2 : Hid (w.grownBy w2 none) := grown_trans (grown_drew KG1.out) hg2; have HX2 := hid (grown_out hg2 (show w1.drew.heap[w.heap.size]? = _ from HX1.out)); clear hg2) | (go_at_call 94; refine (c_any op a b c fb tb eb cb L nx rb nr back s.2.1 w2 (KF.out.kept KG2.out).1 (KF.out.kept KG2.out).2.1 hc).mono ?_; rintro e w3 ⟨rfl, hg3⟩; have KG3 : Hid (w.grownBy w3 none) := grown_trans KG2.out hg3; have HX3 := hid (grown_out hg3 HX2.out); clear hg3) | (go_at_call 158; refine (slot_any op a b c fb tb eb sb pb n (s.2.1 b) (s.2.1 c) kd vb s.2.2 w3 (KS.out.kept KG3.out) hn (HH.out.h1 b hb) ((grown_cell KG3.out (a := ⟨eb, 27, none⟩) le).1.trans h26) (Nat.lt_of_lt_of_le le KG3.out.size)).mono ?_; rintro e w4 ⟨v, rfl, hg4, hsl⟩; have KG4 : Hid (w.grownBy w4 none) := grown_trans KG3.out hg4; have HX4 := hid (grown_out hg4 HX3.out); obtain ⟨pv, wy, rfl⟩ : ∃ (pv : Value) (wy : Int), v = .tuple #[pv, .int .i64 wy] := (by rcases hsl with ⟨_, h⟩ | ⟨_, y, _, _, h⟩; exact ⟨_, _, h⟩; exact ⟨_, _, h⟩); have HSL := hid hsl; clear hg4 hsl))

  all_goals
    rcases HSL.out with ⟨hok, he⟩ | ⟨hok, why, hw1, hw2, he⟩
    · have HOK := hid hok
      obtain ⟨o1, o2, o3, o4⟩ := id hok
      have hp : 1 ≤ (s.2.1 b).1 ∧ (s.2.1 b).1 ≤ n ∧ kd.on (s.2.1 b).1 = true := by
        rcases HH.out.h1 b hb with h | h
        · exact absurd h o1
        · exact ⟨h.1, h.2.1, h.2.2.1⟩
      injection he with he
      injection he with he
      injection he with he1 he2
      injection he2 with he2 _
      injection he2 with _ he2
      subst he1 he2
      obtain ⟨i, hi⟩ : ∃ i : Nat, (s.2.1 c).2 = (i : Int) := ⟨(s.2.1 c).2.toNat, by omega⟩
      obtain ⟨k, hk⟩ : ∃ k, (s.2.1 b).1 = k + 1 := ⟨(s.2.1 b).1 - 1, by omega⟩
      have hil : i < (s.2.2 (k + 1)).length := by rw [hi, hk] at o4; omega
      have hso : ∀ w' : World, w.grownBy w' none → Calls Tryz.prog 159 #[P0 sb, vA (s.2.1 b), .int .i64 (s.2.1 c).2] w' fun e w'' => e = .returned (vA ((s.2.2 (s.2.1 b).1).getD (s.2.1 c).2.toNat (0, 0))) ∧ w'.grownBy w'' none := by
        intro w' hg
        have e1 : s.2.1 b = (k + 1, (s.2.1 b).2) := Prod.ext hk rfl
        rw [hk, hi]
        have := slotOf_any sb pb eb n k i (s.2.1 b).2 kd vb s.2.2 w' (KS.out.kept hg) hn (by omega) (by rw [← hk]; exact hp.2.2) hil
        rw [← e1] at this
        exact this
      have HSO := hid hso
      generalize hval : (s.2.2 (s.2.1 b).1).getD (s.2.1 c).2.toNat (0, 0) = val at *
      have HVAL := hid hval
      generalize hyy : (s.2.1 c).2 = yy at *
      have HYY := hid hyy
      clear hyy
      clear hok o1 o2 o3 o4 hp hi hk hil hso hval
      have HF4 := hid (KF.out.kept KG4.out)
      obtain ⟨x0, x1, x2, x3, x4, x5, x6⟩ := s7_of HX4.out
      have lx := heap_lt HX4.out
      have nxr : w.heap.size ≠ rb := by have := KF.out.2.1.lt; omega
      have ner : eb ≠ rb := by have := HER.out; exact this
      have hz4 := KG4.out.size
      have HS : Hid (∀ w' : World, Only (fun k => k = rb) w4 w' → (w'.cell? ⟨w.heap.size, 0, none⟩ = some (.int .u8 (op : Int)) ∧ w'.cell? ⟨w.heap.size, 1, none⟩ = some (.int .u8 (a : Int)) ∧ w'.cell? ⟨w.heap.size, 2, none⟩ = some (.int .u8 (b : Int)) ∧ w'.cell? ⟨w.heap.size, 3, none⟩ = some (.int .u8 (c : Int)) ∧ w'.cell? ⟨w.heap.size, 4, none⟩ = some (P0 fb) ∧ w'.cell? ⟨w.heap.size, 5, none⟩ = some (P0 tb) ∧ w'.cell? ⟨w.heap.size, 6, none⟩ = some (P0 eb) ∧ w'.cell? ⟨eb, 27, none⟩ = some (P0 sb))) :=
        fun w' hO => ⟨(hO.cell lx nxr).trans x0, (hO.cell lx nxr).trans x1, (hO.cell lx nxr).trans x2, (hO.cell lx nxr).trans x3, (hO.cell lx nxr).trans x4, (hO.cell lx nxr).trans x5, (hO.cell lx nxr).trans x6, (hO.cell (by omega) ner).trans ((grown_cell KG4.out (a := ⟨eb, 27, none⟩) le).1.trans h26)⟩
      have HSA := hid (HS.out w4.drew (only_refl _ _))
      go_wp2_with fail
      go_region_held3 (fun w' => w'.cell? ⟨w.heap.size, 0, none⟩ = some (.int .u8 (op : Int)) ∧ w'.cell? ⟨w.heap.size, 1, none⟩ = some (.int .u8 (a : Int)) ∧ w'.cell? ⟨w.heap.size, 2, none⟩ = some (.int .u8 (b : Int)) ∧ w'.cell? ⟨w.heap.size, 3, none⟩ = some (.int .u8 (c : Int)) ∧ w'.cell? ⟨w.heap.size, 4, none⟩ = some (P0 fb) ∧ w'.cell? ⟨w.heap.size, 5, none⟩ = some (P0 tb) ∧ w'.cell? ⟨w.heap.size, 6, none⟩ = some (P0 eb) ∧ w'.cell? ⟨eb, 27, none⟩ = some (P0 sb)) (first | exact HSA.out | exact HSB.out | exact HSC.out | exact HSD.out) (first | (go_at_call 86; refine (b_any op a b c fb tb eb cb L nx rb nr back s.2.1 w4.drew (HF4.out.kept (grown_drew (grown_refl _ _))).1 (HF4.out.kept (grown_drew (grown_refl _ _))).2.1 hb).mono ?_; rintro e w5 ⟨rfl, hg5⟩; have KG5 : Hid (w4.grownBy w5 none) := ⟨hg5.os, hg5.tape, hg5.output, hg5.size, hg5.block⟩; have HSB := hid (HS.out w5 (only_none KG5.out)); clear hg5) | (go_at_call 159; refine (HSO.out w5 (grown_trans KG4.out KG5.out)).mono ?_; rintro e w6 ⟨rfl, hg6⟩; have KG6 : Hid (w4.grownBy w6 none) := grown_trans KG5.out hg6; have HSC := hid (HS.out w6 (only_none KG6.out)); clear hg6) | (go_at_call 149; refine (set_any op a b c fb tb eb cb L nx rb nr back s.2.1 val w6 (HF4.out.kept KG6.out).1 (HF4.out.kept KG6.out).2.1 ha).mono ?_; rintro e w7 ⟨rfl, hg7, hf7⟩; have HSD := hid (HS.out w7 ((only_none (S := fun k => k = rb) KG6.out).then hg7 (Or.inl rfl))); have HR := hid (And.intro (grown_trans (grown_of_none (grown_trans KG4.out KG6.out)) hg7) (And.intro (grown_heap hg7 (HF4.out.kept KG6.out).1 (by intro e; injection e with e; exact KF.out.2.2 e)) hf7)); clear hg7 hf7))
      all_goals
        go_wp2_with fail
        go_ret
        exact Or.inl ⟨HOK.out, rfl, HR.out.1, HR.out.2.1, by rw [HYY.out, HVAL.out]; exact HR.out.2.2, KF.out.2.2⟩
    · injection he with he
      injection he with he
      injection he with he1 he2
      injection he2 with he2 _
      injection he2 with _ he2
      subst he1 he2
      have HOK := hid hok
      have hne0 : ¬ ((why : Int) = 0) := by omega
      clear hok
      go_wp2_with fail
      go_ret
      exact Or.inr ⟨HOK.out, why, hw1, hw2, rfl, KG4.out⟩
end Go.Proofs.YtnjiinbhbjpfkaaGreatDoor
