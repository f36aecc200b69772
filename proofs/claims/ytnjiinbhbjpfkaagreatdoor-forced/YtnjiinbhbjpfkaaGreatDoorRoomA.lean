/-
  Small facts on worlds: calls that write into one block or none and make new ones; blocks of which all is known; new blocks of one cell.
-/
import Derived.Test.YtnjiinbhbjpfkaaGreatDoorRows
import Derived.WalkKit
import Derived.WalkSpells
import Derived.WalkLawsBesides
import Derived.BigQuiet
import Derived.BigRegion
import Derived.Deep.QuietTactic
import Derived.Deep.MidRow
import Derived.Deep.RegionLawGrows
import Derived.Deep.DeepCutAuto
import Derived.Laws.ByValue
import Derived.Deep.RegionHeld3
import Derived.Lib.SliceRun
namespace Go.Proofs.YtnjiinbhbjpfkaaGreatDoor
open Go.RowKit

abbrev P0 (b : Nat) : Value := .pointer (some ⟨b, 0, none⟩)
abbrev Fv (k : Nat) (cap : Array Value) : Value := .func (.func k) #[] cap
theorem grown_refl (w : World) (row : Option Nat) : w.grownBy w row := ⟨rfl, rfl, rfl, Nat.le_refl _, fun _ _ _ => rfl⟩
theorem grown_trans {w w1 w2 : World} {row : Option Nat} (h : w.grownBy w1 row) (k : w1.grownBy w2 row) : w.grownBy w2 row :=
  ⟨k.os.trans h.os, k.tape.trans h.tape, k.output.trans h.output, Nat.le_trans h.size k.size, fun i hi hr => (k.block i (Nat.lt_of_lt_of_le hi h.size) hr).trans (h.block i hi hr)⟩
theorem grown_drewN {w w1 : World} {row : Option Nat} (h : w.grownBy w1 row) (n : Nat) : w.grownBy (w1.drewN n) row := ⟨h.os, h.tape, h.output, h.size, h.block⟩
theorem grown_drew {w w1 : World} {row : Option Nat} (h : w.grownBy w1 row) : w.grownBy w1.drew row := ⟨h.os, h.tape, h.output, h.size, h.block⟩
theorem grown_alloc {w w1 : World} {row : Option Nat} (h : w.grownBy w1 row) (o : Obj) : w.grownBy (w1.alloc o) row := grown_trans h (World.grownBy_alloc _ _ _)
/-- A store into the row itself, or into a block that was not there. -/
theorem grown_setCell {w w1 : World} {row : Option Nat} (h : w.grownBy w1 row) {a : Addr} (ha : some a.block = row ∨ w.heap.size ≤ a.block) (v : Value) : w.grownBy (w1.setCell a v) row := by
  refine ⟨h.os, h.tape, h.output, Nat.le_trans h.size (by simp [World.setCell]), fun i hi hr => ?_⟩
  rw [Below.heap_setCell]
  · exact h.block i hi hr
  · rintro rfl
    rcases ha with ha | ha
    · exact hr ha
    · omega

theorem heap_drewN (w : World) (n : Nat) : (w.drewN n).heap = w.heap := rfl

theorem heap_lt {w : World} {b : Nat} {o : Obj} (h : w.heap[b]? = some o) : b < w.heap.size := (Array.getElem?_eq_some_iff.1 h).1

/-- What a block that is none of the row's holds behind. -/
theorem grown_heap {w w1 : World} {row : Option Nat} (h : w.grownBy w1 row) {k : Nat} {o : Obj} (hk : w.heap[k]? = some o) (hr : some k ≠ row) : w1.heap[k]? = some o :=
  (h.block k (heap_lt hk) hr).trans hk

theorem grown_of_below {w w' : World} {b : Nat} (h : Below w.heap.size w w') : w.grownBy w' (some b) := ⟨h.os, h.tape, h.output, h.size, fun k hk _ => h.block k hk⟩

/-- A block of n cells, which may be written; the first m of them are P's. -/
def Full (w : World) (g : Nat) (T : TypeId) (n m : Nat) (P : Nat → Value) : Prop := ∃ cur, w.heap[g]? = some (.cells cur T (0, 0)) ∧ cur.size = n ∧ ∀ j, j < m → cur[j]? = some (P j)
/-- A block of so many cells, which may be written. -/
def Blk (w : World) (g : Nat) (T : TypeId) (n : Nat) : Prop := ∃ cur, w.heap[g]? = some (.cells cur T (0, 0)) ∧ cur.size = n
theorem Blk.lt {w : World} {g n : Nat} {T : TypeId} (h : Blk w g T n) : g < w.heap.size := by obtain ⟨_, h, _⟩ := h; exact heap_lt h
theorem Blk.cell {w : World} {g n : Nat} {T : TypeId} (h : Blk w g T n) (j : Nat) (hj : j < n) : (∃ v, w.cell? ⟨g, j, none⟩ = some v) ∧ w.frozen? ⟨g, j, none⟩ = false := by
  obtain ⟨cur, h, hc⟩ := h
  have hj' : j < cur.size := by omega
  exact ⟨⟨cur[j], by simp [World.cell?, h, hj']⟩, by simp [World.frozen?, h]⟩
theorem Blk.set {w : World} {g n : Nat} {T : TypeId} (h : Blk w g T n) (x o : Nat) (v : Value) : Blk (w.setCell ⟨x, o, none⟩ v) g T n := by
  obtain ⟨cur, h, hc⟩ := h
  by_cases e : g = x
  · subst e
    refine ⟨cur.setIfInBounds o v, ?_, by simpa using hc⟩
    simp [World.setCell, Array.getElem?_modify, h]
  · exact ⟨cur, (Below.heap_setCell _ _ _ _ e).trans h, hc⟩
theorem Blk.kept {w w' : World} {g n b : Nat} {T : TypeId} (h : Blk w g T n) (hg : w.grownBy w' (some b)) (hb : g ≠ b) : Blk w' g T n := by
  obtain ⟨cur, h, hc⟩ := h
  exact ⟨cur, grown_heap hg h (by intro e; injection e; omega), hc⟩
theorem Blk.owned {w : World} {g n cap base size : Nat} {e : TypeId} {xs : List Value} (h : w.ownsRow base e size (.slice (some ⟨g, 0, none⟩) n cap) n xs) : Blk w g e (cap * size) := by
  rcases h.2 with ⟨h, _⟩ | ⟨g', cap', cur, h1, _, h2, _, _, h3, _⟩
  · cases h
  · cases h1; exact ⟨cur, h2, h3⟩
theorem Full.blk {w : World} {g n m : Nat} {T : TypeId} {P : Nat → Value} (h : Full w g T n m P) : Blk w g T n := by obtain ⟨cur, h, hc, _⟩ := h; exact ⟨cur, h, hc⟩
theorem Blk.full {w : World} {g n : Nat} {T : TypeId} (h : Blk w g T n) (P : Nat → Value) : Full w g T n 0 P := by obtain ⟨cur, h, hc⟩ := h; exact ⟨cur, h, hc, fun j hj => absurd hj (Nat.not_lt_zero j)⟩
theorem Full.set {w : World} {g n m : Nat} {T : TypeId} {P : Nat → Value} (h : Full w g T n m P) (hm : m < n) : Full (w.setCell ⟨g, m, none⟩ (P m)) g T n (m + 1) P := by
  obtain ⟨cur, h, hc, hj⟩ := h
  refine ⟨cur.setIfInBounds m (P m), by simp [World.setCell, Array.getElem?_modify, h], by simpa using hc, fun j hj' => ?_⟩
  rw [Array.getElem?_setIfInBounds]
  by_cases e : m = j
  · subst e; simp; omega
  · rw [if_neg e]; exact hj j (by omega)
theorem Full.block {w w' : World} {g n m : Nat} {T : TypeId} {P : Nat → Value} (h : Full w g T n m P) (hb : w'.heap[g]? = w.heap[g]?) : Full w' g T n m P := by
  obtain ⟨cur, h, r⟩ := h; exact ⟨cur, hb.trans h, r⟩
theorem Full.lt {w : World} {g n m : Nat} {T : TypeId} {P : Nat → Value} (h : Full w g T n m P) : g < w.heap.size := h.blk.lt
theorem Full.kept {w w' : World} {g n m b : Nat} {T : TypeId} {P : Nat → Value} (h : Full w g T n m P) (hg : w.grownBy w' (some b)) (hb : g ≠ b) : Full w' g T n m P :=
  h.block (hg.block g h.lt (by intro e; injection e; omega))
theorem Full.cell {w : World} {g n m : Nat} {T : TypeId} {P : Nat → Value} (h : Full w g T n m P) (j : Nat) (hj : j < m) : w.cell? ⟨g, j, none⟩ = some (P j) := by
  obtain ⟨cur, h, _, hP⟩ := h
  simp [World.cell?, h, hP j hj]
theorem Full.sets4 {w : World} {g n m : Nat} {T : TypeId} {P : Nat → Value} (h : Full w g T n m P) (hm : m + 4 ≤ n) (v0 v1 v2 v3 : Value) (e0 : v0 = P m) (e1 : v1 = P (m + 1)) (e2 : v2 = P (m + 2)) (e3 : v3 = P (m + 3)) :
    Full (w.setCells g m [v0, v1, v2, v3]) g T n (m + 4) P := by
  subst e0 e1 e2 e3
  exact (((h.set (by omega)).set (by omega)).set (by omega)).set (by omega)
theorem Full.sets2 {w : World} {g n m : Nat} {T : TypeId} {P : Nat → Value} (h : Full w g T n m P) (hm : m + 2 ≤ n) (v0 v1 : Value) (e0 : v0 = P m) (e1 : v1 = P (m + 1)) :
    Full (w.setCells g m [v0, v1]) g T n (m + 2) P := by
  subst e0 e1
  exact (h.set (by omega)).set (by omega)
theorem grown_of_none {w w' : World} {row : Option Nat} (h : w.grownBy w' none) : w.grownBy w' row := ⟨h.os, h.tape, h.output, h.size, fun k hk _ => h.block k hk (by intro e; cases e)⟩

theorem Blk.there {w : World} {g n : Nat} {T : TypeId} (h : Blk w g T n) (o m : Nat) (hm : o + m ≤ n) : w.there g o m := fun j hj => by
  obtain ⟨⟨v, h1⟩, h2⟩ := h.cell (o + j) (by omega)
  exact ⟨by rw [h1]; rfl, h2⟩
theorem Blk.sets {g n : Nat} {T : TypeId} (x : Nat) : ∀ (vs : List Value) (o : Nat) (w : World), Blk w g T n → Blk (w.setCells x o vs) g T n
  | [], _, _, h => h
  | v :: r, o, w, h => Blk.sets x r (o + 1) (w.setCell ⟨x, o, none⟩ v) (h.set x o v)
theorem heap_setCells (x k : Nat) (hk : k ≠ x) : ∀ (vs : List Value) (o : Nat) (w : World), (w.setCells x o vs).heap[k]? = w.heap[k]?
  | [], _, _ => rfl
  | v :: r, o, w => by rw [World.setCells, heap_setCells x k hk r]; exact Below.heap_setCell _ _ _ _ hk
/-- A store into a block that was not there. -/
theorem grown_setCells {row : Option Nat} (g : Nat) : ∀ (vs : List Value) (o : Nat) (w w1 : World), w.grownBy w1 row → w.heap.size ≤ g → w.grownBy (w1.setCells g o vs) row
  | [], _, _, _, h, _ => h
  | v :: r, o, w, w1, h, hg => grown_setCells g r (o + 1) w (w1.setCell ⟨g, o, none⟩ v) (grown_setCell h (Or.inr hg) v) hg

theorem below_of_grown {w w' : World} {o : Obj} (h : (w.alloc o).grownBy w' (some w.heap.size)) : Below w.heap.size w w' :=
  ⟨h.os, h.tape, h.output, by have := h.size; simp at this; omega, fun k hk => (h.block k (by simp; omega) (by intro e; injection e; omega)).trans (Below.heap_alloc _ _ _ hk)⟩

theorem bcell {W w1 : World} (hb : Below W.heap.size W w1) : (∀ b o, b < W.heap.size → w1.cell? ⟨b, o, none⟩ = W.cell? ⟨b, o, none⟩) ∧ (∀ b o, b < W.heap.size → w1.frozen? ⟨b, o, none⟩ = W.frozen? ⟨b, o, none⟩) :=
  ⟨fun b o h => hb.cell (p := ⟨b, o, none⟩) h, fun b o h => hb.frozen (p := ⟨b, o, none⟩) h⟩

theorem below_none {w w' : World} (h : w.grownBy w' none) : Below w.heap.size w w' := ⟨h.os, h.tape, h.output, h.size, fun k hk => h.block k hk (by intro e; cases e)⟩
theorem row_form {w : World} {base size n : Nat} {e : TypeId} {v : Value} {xs : List Value} (h : w.ownsRow base e size v n xs) (hn : n ≠ 0) : ∃ g cap, v = .slice (some ⟨g, 0, none⟩) n cap := by
  rcases h.2 with ⟨_, h⟩ | ⟨g', cap', _, h, _⟩
  · omega
  · exact ⟨g', cap', h⟩

/-- A block that was there, behind new ones. -/

theorem grown_cell {w w1 : World} (h : w.grownBy w1 none) {a : Addr} (ha : a.block < w.heap.size) : w1.cell? a = w.cell? a ∧ w1.frozen? a = w.frozen? a :=
  ⟨World.cell?_of_block (h.block a.block ha (by intro e; cases e)), World.frozen?_of_block (h.block a.block ha (by intro e; cases e))⟩

/-- New blocks of one cell each. -/
def laid1 (w : World) : List (Value × TypeId) → World
  | [] => w
  | x :: r => laid1 (w.alloc (.cells #[x.1] x.2)) r
theorem laid1_below (l : List (Value × TypeId)) : ∀ (w : World), Below w.heap.size w (laid1 w l) := by
  induction l with
  | nil => intro w; exact Below.refl _ _
  | cons x r ih => intro w; exact ((Below.refl _ _).alloc (Nat.le_refl _) _).trans ((ih _).mono (by simp))
theorem laid1_size (l : List (Value × TypeId)) : ∀ (w : World), (laid1 w l).heap.size = w.heap.size + l.length := by
  induction l with
  | nil => intro w; rfl
  | cons x r ih => intro w; rw [laid1, ih]; simp; omega
theorem laid1_at (l : List (Value × TypeId)) : ∀ (w : World) (k : Nat) (x : Value × TypeId), l[k]? = some x → (laid1 w l).heap[w.heap.size + k]? = some (.cells #[x.1] x.2 (0, 0)) := by
  induction l with
  | nil => intro w k x h; simp at h
  | cons y r ih =>
    intro w k x h
    cases k with
    | zero =>
      simp at h; subst h
      rw [laid1]
      exact ((laid1_below r (w.alloc (.cells #[y.1] y.2))).block _ (by simp)).trans (heap_alloc_new w _)
    | succ k =>
      have := ih (w.alloc (.cells #[y.1] y.2)) k x (by simpa using h)
      rw [laid1]
      simpa [Nat.add_assoc, Nat.add_comm 1 k] using this

theorem results_cell {fn : Func} {p : Tmp} {ty : TypeId} {a : Addr} {v : Value} {P : Program} {w : World} (h : fn.results = #[.cell p ty]) (tmps : Array Value) (hp : tmps.getD p undef = .pointer (some a)) (hl : (loadVar ty a).run P w = .ok v w) :
    (results fn tmps).run P w = .ok v w := by
  have hp' : tmps[p]?.getD undef = .pointer (some a) := by simpa using hp
  simp [results, h, hp', asAddr, hl]

theorem setCells_size (g : Nat) : ∀ (vs : List Value) (o : Nat) (w : World), (w.setCells g o vs).heap.size = w.heap.size
  | [], _, _ => rfl
  | v :: r, o, w => by rw [World.setCells, setCells_size g r]; simp [World.setCell]

/-- 'append' to a row of the call's own, as one step of a region that draws its order. -/
theorem step_append_own {P : Program} {ops : Array Oper} {o : Oper} {a : Act} {w : World} {K : Act → World → Prop} {Q : Exit → Act → World → Prop} {E : Prop}
    (hg : o.guard = none) (s x : Operand) (t : TypeId) (hop : o.op = Op.call { callee := Callee.builtin Builtin.append, args := #[s, x], argTypes := #[t, t] })
    (base : Nat) (e : TypeId) (i : TypeInfo) (z : Value) (size bytes : Nat) (h1 : P.underlying t = some (.slice e)) (h2 : P.info? e = some i) (h3 : i.zero = some z) (h4 : i.size = size) (h5 : i.bytes = bytes) (h6 : z.cells.size = size) (h7 : 0 < size)
    (v : Value) (n : Nat) (xs : List Value) (hs : a.eval s = v) (hown : w.ownsRow base e size v n xs)
    (ad : Addr) (m c : Nat) (news : List Value) (hx : a.eval x = .slice (some ad) m c) (hn : news.length = m * size) (hc : ∀ j u, news[j]? = some u → w.cell? (ad.add j) = some u) (h1c : ∀ u ∈ news, u.oneCell' = true)
    (b1 : n + m ≤ maxLen) (b2 : (n + m) * bytes ≤ 140737488355328) (hb : base ≤ w.heap.size)
    (hK : ∀ v' w', w'.ownsRow base e size v' (n + m) (xs ++ news) → w.grownBy w' v.ownBlock → K (a.put o.dst v') w') :
    if Region.wanted o (yielded ops a.tmps) = true then Oper.wp P o a w K Q else E := by
  have hw : Region.wanted o (yielded ops a.tmps) = true := by simp [Region.wanted, hg]
  rw [if_pos hw]
  obtain ⟨v', w', hrun, r1, r2, _⟩ := run_append_own (P := P) w base t o.type e i z size bytes h1 h2 h3 h4 h5 h6 h7 v n xs hown ad m c news hn hc h1c b1 b2 hb
  unfold Oper.wp
  simp [execOp, hop, resolve, invoke, builtin, hs, hx, hrun, Result.andThen]
  exact hK v' w' r1 r2

/-- A call that wrote into memory of its own alone. -/
theorem below_own {w w1 w2 : World} {v : Value} {base size n : Nat} {e : TypeId} {xs : List Value} (h : Below w.heap.size w w1) (hg : w1.grownBy w2 v.ownBlock) (ho : w1.ownsRow base e size v n xs) (hb : w.heap.size ≤ base) : Below w.heap.size w w2 := by
  refine h.trans ⟨hg.os, hg.tape, hg.output, hg.size, fun k hk => hg.block k (Nat.lt_of_lt_of_le hk h.size) ?_⟩
  rcases ho.2 with ⟨rfl, _⟩ | ⟨g, cap, cur, rfl, hg2, _⟩
  · intro e; cases e
  · intro e; have e' : k = g := by injection e
    omega

theorem own_alloc {w : World} {base size n : Nat} {e : TypeId} {v : Value} {xs : List Value} (h : w.ownsRow base e size v n xs) (o : Obj) : (w.alloc o).ownsRow base e size v n xs := by
  refine ⟨h.1, ?_⟩
  rcases h.2 with h2 | ⟨g, cap, cur, h1, h2, h3, h4⟩
  · exact Or.inl h2
  · exact Or.inr ⟨g, cap, cur, h1, h2, (Below.heap_alloc _ _ _ (heap_lt h3)).trans h3, h4⟩
theorem own_drew {w : World} {base size n : Nat} {e : TypeId} {v : Value} {xs : List Value} (h : w.ownsRow base e size v n xs) : w.drew.ownsRow base e size v n xs := h

end Go.Proofs.YtnjiinbhbjpfkaaGreatDoor

/-
  Which blocks a call writes: a set of them, and new ones.
-/
namespace Go.Proofs.YtnjiinbhbjpfkaaGreatDoor
open Go.RowKit

/-- Nothing but the blocks of F is written, and new ones. -/
def Only (F : Nat → Prop) (w w' : World) : Prop := w'.os = w.os ∧ w'.tape = w.tape ∧ w'.output = w.output ∧ w.heap.size ≤ w'.heap.size ∧ ∀ k, k < w.heap.size → ¬ F k → w'.heap[k]? = w.heap[k]?
theorem only_refl (S : Nat → Prop) (w : World) : Only S w w := ⟨rfl, rfl, rfl, Nat.le_refl _, fun _ _ _ => rfl⟩
theorem Only.size {S : Nat → Prop} {w w' : World} (h : Only S w w') : w.heap.size ≤ w'.heap.size := h.2.2.2.1
theorem Only.block {S : Nat → Prop} {w w' : World} (h : Only S w w') {k : Nat} {o : Obj} (hk : w.heap[k]? = some o) (hS : ¬ S k) : w'.heap[k]? = some o := (h.2.2.2.2 k (heap_lt hk) hS).trans hk
theorem Only.same {S : Nat → Prop} {w w' : World} (h : Only S w w') {k : Nat} (hk : k < w.heap.size) (hS : ¬ S k) : w'.heap[k]? = w.heap[k]? := h.2.2.2.2 k hk hS
theorem Only.cell {S : Nat → Prop} {w w' : World} (h : Only S w w') {k o : Nat} (hk : k < w.heap.size) (hS : ¬ S k) : w'.cell? ⟨k, o, none⟩ = w.cell? ⟨k, o, none⟩ := World.cell?_of_block (a := ⟨k, o, none⟩) (h.same hk hS)
theorem Only.frozen {S : Nat → Prop} {w w' : World} (h : Only S w w') {k o : Nat} (hk : k < w.heap.size) (hS : ¬ S k) : w'.frozen? ⟨k, o, none⟩ = w.frozen? ⟨k, o, none⟩ := World.frozen?_of_block (a := ⟨k, o, none⟩) (h.same hk hS)
theorem Only.trans {S S1 : Nat → Prop} {w w1 w2 : World} (h : Only S w w1) (k : Only S1 w1 w2) (hS : ∀ b, S1 b → b < w.heap.size → S b) : Only S w w2 :=
  ⟨k.1.trans h.1, k.2.1.trans h.2.1, k.2.2.1.trans h.2.2.1, Nat.le_trans h.size k.size, fun b hb hn => (k.2.2.2.2 b (Nat.lt_of_lt_of_le hb h.size) (fun hs => hn (hS b hs hb))).trans (h.2.2.2.2 b hb hn)⟩
theorem Only.mono {S S1 : Nat → Prop} {w w1 : World} (h : Only S w w1) (hS : ∀ b, S b → b < w.heap.size → S1 b) : Only S1 w w1 :=
  ⟨h.1, h.2.1, h.2.2.1, h.size, fun b hb hn => h.2.2.2.2 b hb (fun hs => hn (hS b hs hb))⟩
theorem only_grown {S : Nat → Prop} {w w1 : World} {b : Nat} (h : w.grownBy w1 (some b)) (hb : S b) : Only S w w1 :=
  ⟨h.os, h.tape, h.output, h.size, fun k hk hn => h.block k hk (by intro e; injection e with e; exact hn (e ▸ hb))⟩
theorem only_none {S : Nat → Prop} {w w1 : World} (h : w.grownBy w1 none) : Only S w w1 := ⟨h.os, h.tape, h.output, h.size, fun k hk _ => h.block k hk (by intro e; cases e)⟩
theorem Only.then {S : Nat → Prop} {w w1 w2 : World} {b : Nat} (h : Only S w w1) (k : w1.grownBy w2 (some b)) (hb : S b ∨ w.heap.size ≤ b) : Only S w w2 :=
  h.trans (only_grown (S := fun x => x = b) k rfl) (fun x hx hl => hb.elim (fun hb => hx ▸ hb) (fun hb => absurd hl (by omega)))
theorem Only.then0 {S : Nat → Prop} {w w1 w2 : World} (h : Only S w w1) (k : w1.grownBy w2 none) : Only S w w2 := h.trans (only_none (S := S) k) (fun _ hx _ => hx)
theorem only_drew {S : Nat → Prop} {w w1 : World} (h : Only S w w1) : Only S w w1.drew := h
theorem only_drewN {S : Nat → Prop} {w w1 : World} (h : Only S w w1) (n : Nat) : Only S w (w1.drewN n) := h
theorem only_alloc {S : Nat → Prop} {w w1 : World} (h : Only S w w1) (o : Obj) : Only S w (w1.alloc o) := h.then0 (World.grownBy_alloc _ _ _)
theorem only_setCell {S : Nat → Prop} {w w1 : World} (h : Only S w w1) {a : Addr} (ha : S a.block ∨ w.heap.size ≤ a.block) (v : Value) : Only S w (w1.setCell a v) :=
  h.then (b := a.block) (grown_setCell (grown_refl _ _) (Or.inl rfl) v) ha
theorem Only.grown {b : Nat} {S : Nat → Prop} {w w1 : World} (h : Only S w w1) (hS : ∀ k, S k → k < w.heap.size → k = b) : w.grownBy w1 (some b) :=
  ⟨h.1, h.2.1, h.2.2.1, h.size, fun k hk hn => h.2.2.2.2 k hk (fun hs => hn (by rw [hS k hs hk]))⟩
theorem Only.none {S : Nat → Prop} {w w1 : World} (h : Only S w w1) (hS : ∀ k, S k → k < w.heap.size → False) : w.grownBy w1 none :=
  ⟨h.1, h.2.1, h.2.2.1, h.size, fun k hk _ => h.2.2.2.2 k hk (fun hs => hS k hs hk)⟩

theorem hid {p : Prop} (h : p) : Hid p := h
/-- What a block holds, one cell of it written. -/
def upd (P : Nat → Value) (j : Nat) (v : Value) : Nat → Value := fun i => if i = j then v else P i
theorem upd_at (P : Nat → Value) (j : Nat) (v : Value) : upd P j v j = v := if_pos rfl
theorem upd_off (P : Nat → Value) (j i : Nat) (v : Value) (h : i ≠ j) : upd P j v i = P i := if_neg h
theorem Full.upd {w : World} {g n m : Nat} {T : TypeId} {P : Nat → Value} (h : Full w g T n m P) (j : Nat) (v : Value) : Full (w.setCell ⟨g, j, none⟩ v) g T n m (upd P j v) := by
  obtain ⟨cur, h, hc, hj⟩ := h
  refine ⟨cur.setIfInBounds j v, by simp [World.setCell, Array.getElem?_modify, h], by simpa using hc, fun i hi => ?_⟩
  rw [Array.getElem?_setIfInBounds]
  by_cases e : j = i
  · subst e
    have := hj j hi
    rw [upd_at, if_pos rfl, if_pos (Array.getElem?_eq_some_iff.1 this).1]
  · rw [if_neg e, upd_off _ _ _ _ (fun h => e h.symm)]; exact hj i hi
theorem Full.off {w : World} {g n m x o : Nat} {T : TypeId} {P : Nat → Value} {v : Value} (h : Full w g T n m P) (hx : g ≠ x) : Full (w.setCell ⟨x, o, none⟩ v) g T n m P := h.block (Below.heap_setCell _ _ _ _ hx)
theorem Full.cells {w : World} {g n m : Nat} {T : TypeId} {P : Nat → Value} (h : Full w g T n m P) (j : Nat) (hj : j < m) : w.cell? ⟨g, j, none⟩ = some (P j) ∧ w.frozen? ⟨g, j, none⟩ = false := by
  refine ⟨h.cell j hj, ?_⟩
  obtain ⟨cur, h, _⟩ := h
  simp [World.frozen?, h]
theorem Full.ne {w : World} {g n m g' n' m' : Nat} {T T' : TypeId} {P P' : Nat → Value} (h : Full w g T n m P) (h' : Full w g' T' n' m' P') (hT : T ≠ T') : g ≠ g' := by
  rintro rfl
  obtain ⟨cur, h, _⟩ := h
  obtain ⟨cur', h', _⟩ := h'
  rw [h] at h'
  injection h' with h'
  injection h' with _ h' _
  exact hT h'
theorem Full.only {S : Nat → Prop} {w w' : World} {g n m : Nat} {T : TypeId} {P : Nat → Value} (h : Full w g T n m P) (ho : Only S w w') (hS : ¬ S g) : Full w' g T n m P := h.block (ho.same h.lt hS)
theorem Full.congr {w : World} {g n m : Nat} {T : TypeId} {P Q : Nat → Value} (h : Full w g T n m P) (hP : ∀ j, j < m → P j = Q j) : Full w g T n m Q := by
  obtain ⟨cur, h1, h2, h3⟩ := h
  exact ⟨cur, h1, h2, fun j hj => (h3 j hj).trans (by rw [hP j hj])⟩
end Go.Proofs.YtnjiinbhbjpfkaaGreatDoor

/-
  A machine of one task and one function, as plain functions and relations: a new cell is taken from any place that cannot be reached, and what can be reached stays. Nothing of the program is imported here.
-/
namespace Go.Proofs.YtnjiinbhbjpfkaaGreatDoor.B

/-- A value: the place of a cell (from 1 on), or 0, and the number. -/
abbrev V := Nat × Int
/-- The instruction that is run next; the registers; what lies at the places. -/
abbrev St := Nat × (Nat → V) × (Nat → List V)
/-- An instruction and its operands. -/
abbrev In := Nat × Nat × Nat × Nat
/-- An event's kind and number. -/
abbrev Ev := Nat × Int

def set (r : Nat → V) (a : Nat) (v : V) : Nat → V := fun i => if i = a then v else r i
theorem set_at (r : Nat → V) (a : Nat) (v : V) : set r a v a = v := if_pos rfl
theorem set_off (r : Nat → V) (a i : Nat) (v : V) (h : i ≠ a) : set r a v i = r i := if_neg h

def lay (m : Nat → List V) (p : Nat) (l : List V) : Nat → List V := fun k => if k = p then l else m k
theorem lay_at (m : Nat → List V) (p : Nat) (l : List V) : lay m p l p = l := if_pos rfl
theorem lay_off (m : Nat → List V) (p k : Nat) (l : List V) (h : k ≠ p) : lay m p l k = m k := if_neg h

/-- The least set that holds the registers' cells and, with a cell, those in its slots. -/
def Reach (nr : Nat) (s : St) (p : Nat) : Prop :=
  ∀ S : Nat → Prop, (∀ i, i < nr → (s.2.1 i).1 ≠ 0 → S (s.2.1 i).1) → (∀ k, S k → ∀ v, v ∈ s.2.2 k → v.1 ≠ 0 → S v.1) → S p

theorem reach_reg {nr : Nat} {s : St} (i : Nat) (hi : i < nr) (h : (s.2.1 i).1 ≠ 0) : Reach nr s (s.2.1 i).1 := fun _ h1 _ => h1 i hi h
theorem reach_slot {nr : Nat} {s : St} {k : Nat} (hk : Reach nr s k) {v : V} (hv : v ∈ s.2.2 k) (h : v.1 ≠ 0) : Reach nr s v.1 := fun S h1 h2 => h2 k (hk S h1 h2) v hv h

/-- All places can be reached. -/
def Full (nr n : Nat) (s : St) : Prop := ∀ p, 1 ≤ p → p ≤ n → Reach nr s p

/-- A number of 16 bits with a sign. -/
def wide (b c : Nat) : Int := if 256 * b + c < 32768 then (256 * b + c : Nat) else (256 * b + c : Nat) - 65536
/-- A number of 64 bits. -/
def wrap (x : Int) : Int := (x + 9223372036854775808) % 18446744073709551616 - 9223372036854775808
theorem wrap_in {x : Int} (h1 : -9223372036854775808 ≤ x) (h2 : x ≤ 9223372036854775807) : wrap x = x := by unfold wrap; omega

/-- What an instruction does: 0: the task goes on; 1: it has ended; 2: no cell was free. (Of one that fails, or that this machine does not know, nothing is said but that it is 3.) -/
def Does (nr n : Nat) (i : In) (s s' : St) (r : Nat) (ev : List Ev) : Prop :=
  let a := i.2.1
  let b := i.2.2.1
  let c := i.2.2.2
  let R := s.2.1
  let M := s.2.2
  match i.1 with
  | 0 => r = 0 ∧ ev = [] ∧ s' = (s.1 + 1, set R a (0, wide b c), M)
  | 1 => r = 0 ∧ ev = [] ∧ s' = (s.1 + 1, set R a (R b), M)
  | 3 => if (R b).1 = 0 ∧ (R c).1 = 0 then r = 0 ∧ ev = [] ∧ s' = (s.1 + 1, set R a (0, wrap ((R b).2 - (R c).2)), M) else r = 3
  | 6 => r = 0 ∧ ev = [] ∧ s' = (s.1 + 1, set R a (0, if R b = R c then 1 else 0), M)
  | 7 => r = 0 ∧ ev = [] ∧ s' = (256 * b + c, R, M)
  | 8 => r = 0 ∧ ev = [] ∧ s' = (if R a = (0, 0) then 256 * b + c else s.1 + 1, R, M)
  | 9 => (Full nr n s ∧ r = 2 ∧ ev = [(5, 0)]) ∨
      (r = 0 ∧ ev = [] ∧ ∃ p M', 1 ≤ p ∧ p ≤ n ∧ ¬ Reach nr s p ∧ (∀ k, Reach nr s k → M' k = M k) ∧ M' p = List.replicate b (0, 0) ∧ s' = (s.1 + 1, set R a (p, 0), M'))
  | 10 => if (R b).1 ≠ 0 ∧ (R c).1 = 0 ∧ 0 ≤ (R c).2 ∧ (R c).2 < (M (R b).1).length then r = 0 ∧ ev = [] ∧ s' = (s.1 + 1, set R a ((M (R b).1).getD (R c).2.toNat (0, 0)), M) else r = 3
  | 11 => if (R a).1 ≠ 0 ∧ (R b).1 = 0 ∧ 0 ≤ (R b).2 ∧ (R b).2 < (M (R a).1).length then r = 0 ∧ ev = [] ∧ s' = (s.1 + 1, R, lay M (R a).1 ((M (R a).1).set (R b).2.toNat (R c))) else r = 3
  | 14 => r = 1 ∧ ev = [(2, if (R a).1 = 0 then (R a).2 else 0)]
  | 20 => if (R a).1 = 0 then r = 0 ∧ ev = [(1, (R a).2)] ∧ s' = (s.1 + 1, R, M) else r = 3
  | _ => r = 3

/-- One instruction of a function; at its end the function gives the number 0. -/
def Step (C : List In) (nr n : Nat) (s s' : St) (r : Nat) (ev : List Ev) : Prop :=
  match C[s.1]? with
  | some i => Does nr n i s s' r ev
  | none => r = 1 ∧ ev = [(2, 0)]

/-- At most m instructions, no further than one behind which the task does not go on. -/
def Runs (C : List In) (nr n : Nat) : Nat → St → St → Nat → List Ev → Prop
  | 0, s, s', r, ev => s' = s ∧ r = 0 ∧ ev = []
  | m + 1, s, s', r, ev => ∃ s1 r1 ev1, Step C nr n s s1 r1 ev1 ∧ ((r1 = 0 ∧ ∃ ev2, Runs C nr n m s1 s' r ev2 ∧ ev = ev1 ++ ev2) ∨ (r1 ≠ 0 ∧ r = r1 ∧ ev = ev1))

/-- The events of m instructions from the j-th on. -/
def evs (E : Nat → List Ev) (j : Nat) : Nat → List Ev
  | 0 => []
  | m + 1 => E j ++ evs E (j + 1) m

/-- A run of which every instruction goes on as foretold. -/
theorem runs_on {C : List In} {nr n : Nat} {I : Nat → St → Prop} {E : Nat → List Ev} {B : Nat} (h : ∀ j s s' r ev, j < B → I j s → Step C nr n s s' r ev → r = 0 ∧ ev = E j ∧ I (j + 1) s') :
    ∀ m j s s' r ev, j + m ≤ B → I j s → Runs C nr n m s s' r ev → r = 0 ∧ ev = evs E j m ∧ I (j + m) s' := by
  intro m
  induction m with
  | zero => rintro j s s' r ev _ hI ⟨rfl, rfl, rfl⟩; exact ⟨rfl, rfl, hI⟩
  | succ m ih =>
    rintro j s s' r ev hB hI ⟨s1, r1, ev1, h1, h2⟩
    obtain ⟨rfl, rfl, hI1⟩ := h j s s1 r1 ev1 (by omega) hI h1
    rcases h2 with ⟨_, ev2, h2, rfl⟩ | ⟨h0, _⟩
    · obtain ⟨rfl, rfl, hI2⟩ := ih (j + 1) s1 s' r ev2 (by omega) hI1 h2
      exact ⟨rfl, rfl, by rw [show j + (m + 1) = j + 1 + m by omega]; exact hI2⟩
    · exact absurd rfl h0

/-- A run that comes to the B-th instruction, which stops it. -/
theorem runs_off {C : List In} {nr n : Nat} {I : Nat → St → Prop} {E : Nat → List Ev} {B R : Nat} (h : ∀ j s s' r ev, j < B → I j s → Step C nr n s s' r ev → r = 0 ∧ ev = E j ∧ I (j + 1) s') (hR : R ≠ 0)
    (hl : ∀ s s' r ev, I B s → Step C nr n s s' r ev → r = R ∧ ev = E B) :
    ∀ m j s s' r ev, j ≤ B → B < j + m → I j s → Runs C nr n m s s' r ev → r = R ∧ ev = evs E j (B + 1 - j) := by
  intro m
  induction m with
  | zero => intro j s s' r ev h1 h2; omega
  | succ m ih =>
    rintro j s s' r ev hj hB hI ⟨s1, r1, ev1, h1, h2⟩
    by_cases hjB : j = B
    · subst hjB
      obtain ⟨rfl, rfl⟩ := hl s s1 r1 ev1 hI h1
      rcases h2 with ⟨h0, _⟩ | ⟨_, rfl, rfl⟩
      · exact absurd h0 hR
      · exact ⟨rfl, by rw [show j + 1 - j = 1 by omega]; simp [evs]⟩
    · obtain ⟨rfl, rfl, hI1⟩ := h j s s1 r1 ev1 (by omega) hI h1
      rcases h2 with ⟨_, ev2, h2, rfl⟩ | ⟨h0, _⟩
      · obtain ⟨rfl, rfl⟩ := ih (j + 1) s1 s' r ev2 (by omega) (by omega) hI1 h2
        exact ⟨rfl, by rw [show B + 1 - j = (B + 1 - (j + 1)) + 1 by omega]; rfl⟩
      · exact absurd rfl h0

/-- No list that repeats nothing is longer than one that holds all of it. -/
theorem len_le : ∀ (l m : List Nat), l.Nodup → (∀ x, x ∈ l → x ∈ m) → l.length ≤ m.length := by
  intro l
  induction l with
  | nil => intro m _ _; simp
  | cons a l ih =>
    intro m hn hs
    have ha : a ∈ m := hs a (by simp)
    have h1 := ih (m.erase a) (List.nodup_cons.1 hn).2 (fun x hx => by
      have hne : x ≠ a := fun e => (List.nodup_cons.1 hn).1 (e ▸ hx)
      exact (List.mem_erase_of_ne hne).2 (hs x (by simp [hx])))
    rw [List.length_erase_of_mem ha] at h1
    have : 0 < m.length := List.length_pos_of_mem ha
    simp; omega

theorem upto_mem (n x : Nat) : x ∈ (List.range n).map (· + 1) ↔ 1 ≤ x ∧ x ≤ n := by
  simp only [List.mem_map, List.mem_range]
  constructor
  · rintro ⟨a, h, rfl⟩; omega
  · intro h; exact ⟨x - 1, by omega, by omega⟩

theorem upto_nodup (n : Nat) : ((List.range n).map (· + 1)).Nodup := by
  rw [List.Nodup, List.pairwise_map]
  exact List.Pairwise.imp (fun h => by omega) (List.nodup_range (n := n))

/-- So many places that are all different are all. -/
theorem all_in (l : List Nat) (n : Nat) (hn : l.Nodup) (hl : l.length = n) (hr : ∀ x, x ∈ l → 1 ≤ x ∧ x ≤ n) (p : Nat) (h1 : 1 ≤ p) (h2 : p ≤ n) : p ∈ l := by
  apply Classical.byContradiction
  intro hp
  have := len_le (p :: l) ((List.range n).map (· + 1)) (List.nodup_cons.2 ⟨hp, hn⟩) (fun x hx => by
    rw [upto_mem]
    rcases List.mem_cons.1 hx with rfl | hx
    · exact ⟨h1, h2⟩
    · exact hr x hx)
  simp at this
  omega

/-- Fewer are not all. -/
theorem some_out (l : List Nat) (n : Nat) (hl : l.length < n) : ∃ p, 1 ≤ p ∧ p ≤ n ∧ p ∉ l := by
  apply Classical.byContradiction
  intro hp
  have := len_le ((List.range n).map (· + 1)) l (upto_nodup n) (fun x hx => by
    rw [upto_mem] at hx
    apply Classical.byContradiction
    intro h
    exact hp ⟨x, hx.1, hx.2, h⟩)
  simp at this
  omega

/-- A set that is closed and holds the registers' cells bounds what can be reached. -/
theorem not_full {nr n : Nat} {s : St} (l : List Nat) (hl : l.length < n) (h1 : ∀ i, i < nr → (s.2.1 i).1 ≠ 0 → (s.2.1 i).1 ∈ l) (h2 : ∀ k, k ∈ l → ∀ v, v ∈ s.2.2 k → v.1 ≠ 0 → v.1 ∈ l) : ¬ Full nr n s := by
  intro hF
  obtain ⟨p, p1, p2, p3⟩ := some_out l n hl
  exact p3 (hF p p1 p2 (· ∈ l) h1 h2)

end Go.Proofs.YtnjiinbhbjpfkaaGreatDoor.B

/-
  What the small functions of the engine do: values, instructions' numbers, the registers of a frame.
-/
namespace Go.Proofs.YtnjiinbhbjpfkaaGreatDoor
open Go.RowKit

/-- A value as it lies in two cells. -/
abbrev vA (v : B.V) : Value := .agg #[.int .i64 (v.1 : Int), .int .i64 v.2]
/-- Registers, or slots, in a row. -/
def regP (R : Nat → B.V) : Nat → Value := fun j => if j % 2 = 0 then .int .i64 ((R (j / 2)).1 : Int) else .int .i64 (R (j / 2)).2
theorem regP_0 (R : Nat → B.V) (i : Nat) : regP R (i * 2) = .int .i64 ((R i).1 : Int) := by unfold regP; rw [if_pos (by omega), show i * 2 / 2 = i by omega]
theorem regP_1 (R : Nat → B.V) (i : Nat) : regP R (i * 2 + 1) = .int .i64 (R i).2 := by unfold regP; rw [if_neg (by omega), show (i * 2 + 1) / 2 = i by omega]
/-- The block of a frame. -/
def frmB (cb L nx rb nr : Nat) (back : Value) : Obj := .cells #[.slice (some ⟨cb, 0, none⟩) L L, .int .i64 nx, .slice (some ⟨rb, 0, none⟩) nr nr, back] 241 (0, 0)
/-- A step. -/
abbrev stepV (op a b c fb tb eb : Nat) : Value := .agg #[.int .u8 op, .int .u8 a, .int .u8 b, .int .u8 c, P0 fb, P0 tb, P0 eb]
theorem frm_cells {w : World} {fb cb L nx rb nr : Nat} {back : Value} (h : w.heap[fb]? = some (frmB cb L nx rb nr back)) : w.cell? ⟨fb, 0, none⟩ = some (.slice (some ⟨cb, 0, none⟩) L L) ∧ w.cell? ⟨fb, 1, none⟩ = some (.int .i64 nx) ∧ w.cell? ⟨fb, 2, none⟩ = some (.slice (some ⟨rb, 0, none⟩) nr nr) ∧ w.cell? ⟨fb, 3, none⟩ = some back ∧ w.frozen? ⟨fb, 1, none⟩ = false := by
  simp [World.cell?, World.frozen?, h, frmB]

theorem number_any (n : Int) (w : World) : Calls Tryz.prog 61 #[.int .i64 n] w fun e w' => e = .returned (vA (0, n)) ∧ w' = w.alloc (.cells #[.int .i64 0, .int .i64 n] 149) := by
  go_enter Tryz.func61, Tryz.ntmps61
  go_wp2
  refine bodyPost_ret (v := .agg #[.int .i64 0, .int .i64 n]) (by simp [results, Tryz.results61, go_sem]) rfl ⟨rfl, rfl⟩

theorem isCell_any (v : B.V) (w : World) : Calls Tryz.prog 198 #[vA v] w fun e w' => e = .returned (.bool (decide (v.1 ≠ 0))) ∧ w.grownBy w' none := by
  obtain ⟨v1, v2⟩ := v
  by_cases h : v1 = 0
  · subst h
    go_enter Tryz.func198, Tryz.ntmps198
    go_wp2_with fail
    go_ret
    exact ⟨rfl, World.grownBy_alloc _ _ _⟩
  · have h2 : decide (0 < v1) = true := by simp; omega
    have h3 : decide (v1 ≠ 0) = true := by simpa using h
    rw [show (v1, v2).1 = v1 from rfl, h3]
    have H2 := hid h2
    clear h h3 h2
    go_enter Tryz.func198, Tryz.ntmps198
    go_wp2_with fail
    go_ret
    refine ⟨?_, World.grownBy_alloc _ _ _⟩
    show Ending.returned (Value.bool (decide (0 < v1))) = _
    rw [H2.out]
theorem place_any (k : Nat) (x : Int) (hk : k ≤ 200) (w : World) : Calls Tryz.prog 201 #[vA (k + 1, x)] w fun e w' => e = .returned (.int .i64 (k : Int)) ∧ w.grownBy w' none := by
  have hsub : (k : Int) + 1 - 1 = (k : Int) := by omega
  have hwr : IntKind.i64.wrap (k : Int) = (k : Int) := by simp [IntKind.wrap, IntKind.bits, IntKind.signed]; omega
  have hwr2 : wrap64 (k : Int) = (k : Int) := IntWalk.wrap64_in (k : Int) ⟨by omega, by omega⟩
  go_enter Tryz.func201, Tryz.ntmps201
  go_wp2_with fail
  go_ret
  exact ⟨rfl, World.grownBy_alloc _ _ _⟩

theorem vnumber_any (v : B.V) (w : World) : Calls Tryz.prog 152 #[vA v] w fun e w' => e = .returned (.tuple #[.int .i64 v.2, .bool (decide (v.1 = 0))]) ∧ w.grownBy w' none := by
  have hic := isCell_any v
  have hd : (!decide (v.1 ≠ 0)) = decide (v.1 = 0) := by by_cases h : v.1 = 0 <;> simp [h]
  obtain ⟨c, n⟩ := v
  simp only at hic hd ⊢
  generalize decide (c ≠ 0) = d at *
  generalize decide (c = 0) = d2 at *
  have HI := hid hic
  clear hic
  go_enter Tryz.func152, Tryz.ntmps152
  go_wp2_with fail
  generalize hW : w.alloc (.cells #[.int .i64 (c : Int), .int .i64 n] 149) = w1
  have KG1 : Hid (w.grownBy w1 none) := by rw [← hW]; exact World.grownBy_alloc _ _ _
  have hx1 : w1.heap[w.heap.size]? = some (.cells #[.int .i64 (c : Int), .int .i64 n] 149 (0, 0)) := by rw [← hW]; exact heap_alloc_new w _
  have c0 : w1.cell? ⟨w.heap.size, 0, none⟩ = some (.int .i64 (c : Int)) := by simp [World.cell?, hx1]
  have c1 : w1.cell? ⟨w.heap.size, 1, none⟩ = some (.int .i64 n) := by simp [World.cell?, hx1]
  have lx1 := heap_lt hx1
  clear hW hx1
  have HS : Hid (∀ w' : World, w1.grownBy w' none → w'.cell? ⟨w.heap.size, 0, none⟩ = some (.int .i64 (c : Int)) ∧ w'.cell? ⟨w.heap.size, 1, none⟩ = some (.int .i64 n)) :=
    fun w' hg => ⟨(grown_cell hg (a := ⟨w.heap.size, 0, none⟩) lx1).1.trans c0, (grown_cell hg (a := ⟨w.heap.size, 1, none⟩) lx1).1.trans c1⟩
  go_region_held3 (fun w' => w'.cell? ⟨w.heap.size, 0, none⟩ = some (.int .i64 (c : Int)) ∧ w'.cell? ⟨w.heap.size, 1, none⟩ = some (.int .i64 n)) (first | exact HS.out _ (grown_drew (grown_refl _ _)) | exact HS.out _ HG2.out) (first | (go_at_call 198; refine (HI.out w1.drew).mono ?_; rintro e w2 ⟨rfl, hg2⟩; have HG2 : Hid (w1.grownBy w2 none) := ⟨hg2.os, hg2.tape, hg2.output, hg2.size, hg2.block⟩; clear hg2))
  all_goals
    go_wp2_with fail
    go_ret2
    exact ⟨rfl, grown_trans KG1.out HG2.out⟩

set_option maxRecDepth 100000 in
theorem a_any (op a b c fb tb eb cb L nx rb nr : Nat) (back : Value) (R : Nat → B.V) (w : World) (hf : w.heap[fb]? = some (frmB cb L nx rb nr back)) (hr : Full w rb 149 (nr * 2) (nr * 2) (regP R)) (hb : a < nr) :
    Calls Tryz.prog 98 #[stepV op a b c fb tb eb] w fun e w' => e = .returned (vA (R a)) ∧ w.grownBy w' none := by
  obtain ⟨_, _, c2, _, _⟩ := frm_cells hf
  have r0 := hr.cell (a * 2) (by omega)
  have r1 := hr.cell (a * 2 + 1) (by omega)
  rw [regP_0] at r0
  rw [regP_1] at r1
  have l0 := heap_lt hf
  have l1 := hr.lt
  have l0' : fb < w.heap.size + 1 := by omega
  have l1' : rb < w.heap.size + 1 := by omega
  clear hf hr
  have hbi : (a : Int) < (nr : Int) := by omega
  go_enter Tryz.func98, Tryz.ntmps98
  go_wp2_with fail
  go_region
  all_goals
    go_wp2_with fail
    refine bodyPost_ret (v := vA (R a)) (by simp [results, Tryz.results98, go_sem]) rfl ⟨rfl, ?_⟩
    repeat (first | exact grown_refl _ _ | refine grown_drew ?_ | refine grown_alloc ?_ _)

set_option maxRecDepth 100000 in
theorem b_any (op a b c fb tb eb cb L nx rb nr : Nat) (back : Value) (R : Nat → B.V) (w : World) (hf : w.heap[fb]? = some (frmB cb L nx rb nr back)) (hr : Full w rb 149 (nr * 2) (nr * 2) (regP R)) (hb : b < nr) :
    Calls Tryz.prog 86 #[stepV op a b c fb tb eb] w fun e w' => e = .returned (vA (R b)) ∧ w.grownBy w' none := by
  obtain ⟨_, _, c2, _, _⟩ := frm_cells hf
  have r0 := hr.cell (b * 2) (by omega)
  have r1 := hr.cell (b * 2 + 1) (by omega)
  rw [regP_0] at r0
  rw [regP_1] at r1
  have l0 := heap_lt hf
  have l1 := hr.lt
  have l0' : fb < w.heap.size + 1 := by omega
  have l1' : rb < w.heap.size + 1 := by omega
  clear hf hr
  have hbi : (b : Int) < (nr : Int) := by omega
  go_enter Tryz.func86, Tryz.ntmps86
  go_wp2_with fail
  go_region
  all_goals
    go_wp2_with fail
    refine bodyPost_ret (v := vA (R b)) (by simp [results, Tryz.results86, go_sem]) rfl ⟨rfl, ?_⟩
    repeat (first | exact grown_refl _ _ | refine grown_drew ?_ | refine grown_alloc ?_ _)

set_option maxRecDepth 100000 in
theorem c_any (op a b c fb tb eb cb L nx rb nr : Nat) (back : Value) (R : Nat → B.V) (w : World) (hf : w.heap[fb]? = some (frmB cb L nx rb nr back)) (hr : Full w rb 149 (nr * 2) (nr * 2) (regP R)) (hb : c < nr) :
    Calls Tryz.prog 94 #[stepV op a b c fb tb eb] w fun e w' => e = .returned (vA (R c)) ∧ w.grownBy w' none := by
  obtain ⟨_, _, c2, _, _⟩ := frm_cells hf
  have r0 := hr.cell (c * 2) (by omega)
  have r1 := hr.cell (c * 2 + 1) (by omega)
  rw [regP_0] at r0
  rw [regP_1] at r1
  have l0 := heap_lt hf
  have l1 := hr.lt
  have l0' : fb < w.heap.size + 1 := by omega
  have l1' : rb < w.heap.size + 1 := by omega
  clear hf hr
  have hbi : (c : Int) < (nr : Int) := by omega
  go_enter Tryz.func94, Tryz.ntmps94
  go_wp2_with fail
  go_region
  all_goals
    go_wp2_with fail
    refine bodyPost_ret (v := vA (R c)) (by simp [results, Tryz.results94, go_sem]) rfl ⟨rfl, ?_⟩
    repeat (first | exact grown_refl _ _ | refine grown_drew ?_ | refine grown_alloc ?_ _)

/-- A register is set. -/
theorem regP_set (R : Nat → B.V) (a : Nat) (v : B.V) (j : Nat) (hj : j ≠ a * 2) (hj2 : j ≠ a * 2 + 1) : regP (B.set R a v) j = regP R j := by
  unfold regP
  rw [B.set_off _ _ _ _ (by omega)]
theorem Full.reg {w : World} {rb nr : Nat} {R : Nat → B.V} (h : Full w rb 149 (nr * 2) (nr * 2) (regP R)) (a : Nat) (v : B.V) :
    Full ((w.setCell ⟨rb, a * 2, none⟩ (.int .i64 (v.1 : Int))).setCell ⟨rb, a * 2 + 1, none⟩ (.int .i64 v.2)) rb 149 (nr * 2) (nr * 2) (regP (B.set R a v)) := by
  obtain ⟨cur, h1, h2, h3⟩ := h
  refine ⟨(cur.setIfInBounds (a * 2) (.int .i64 (v.1 : Int))).setIfInBounds (a * 2 + 1) (.int .i64 v.2), ?_, by simpa using h2, fun j hj => ?_⟩
  · simp [World.setCell, Array.getElem?_modify, h1]
  · rw [Array.getElem?_setIfInBounds, Array.getElem?_setIfInBounds]
    by_cases e1 : a * 2 + 1 = j
    · subst e1
      rw [if_pos rfl, regP_1, B.set_at]
      simp; omega
    · rw [if_neg e1]
      by_cases e2 : a * 2 = j
      · subst e2
        rw [if_pos rfl, regP_0, B.set_at]
        simp; omega
      · rw [if_neg e2, regP_set R a v j (by omega) (by omega)]
        exact h3 j hj

set_option maxRecDepth 100000 in
theorem set_any (op a b c fb tb eb cb L nx rb nr : Nat) (back : Value) (R : Nat → B.V) (v : B.V) (w : World) (hf : w.heap[fb]? = some (frmB cb L nx rb nr back)) (hr : Full w rb 149 (nr * 2) (nr * 2) (regP R)) (ha : a < nr) :
    Calls Tryz.prog 149 #[stepV op a b c fb tb eb, vA v] w fun e w' => e = .returned (.tuple #[]) ∧ w.grownBy w' (some rb) ∧ Full w' rb 149 (nr * 2) (nr * 2) (regP (B.set R a v)) := by
  obtain ⟨_, _, c2, _, _⟩ := frm_cells hf
  have hblk := hr.blk
  obtain ⟨_, z0⟩ := hblk.cell (a * 2) (by omega)
  obtain ⟨_, z1⟩ := hblk.cell (a * 2 + 1) (by omega)
  have r0 := hr.cell (a * 2) (by omega)
  have r1 := hr.cell (a * 2 + 1) (by omega)
  have l0 := heap_lt hf
  have l1 := hr.lt
  have l0' : fb < w.heap.size + 1 := by omega
  have l1' : rb < w.heap.size + 1 := by omega
  have HR : Hid (Full w rb 149 (nr * 2) (nr * 2) (regP R)) := hr
  clear hf hr hblk
  generalize regP R (a * 2) = y0 at *
  generalize regP R (a * 2 + 1) = y1 at *
  have hbi : (a : Int) < (nr : Int) := by omega
  go_enter Tryz.func149, Tryz.ntmps149
  go_wp2_with fail
  go_region
  all_goals
    go_wp2_with fail
    go_end0
    refine ⟨rfl, ?_, ?_⟩
    · repeat (first | exact grown_refl _ _ | refine grown_drew ?_ | refine grown_alloc ?_ _ | refine grown_setCell ?_ (Or.inl rfl) _)
    · refine (HR.out.reg a v).block ?_
      show (World.alloc _ _).heap[rb]? = _
      rw [Below.heap_alloc _ _ _ (by simp [World.setCell]; omega), Below.heap_alloc _ _ _ (by simp [World.setCell]; omega)]

end Go.Proofs.YtnjiinbhbjpfkaaGreatDoor

/-
  What the small functions of the engine do: instructions' numbers, a frame's next instruction.
-/
namespace Go.Proofs.YtnjiinbhbjpfkaaGreatDoor
open Go.RowKit

abbrev insV (op a b c : Nat) : Value := .agg #[.int .u8 op, .int .u8 a, .int .u8 b, .int .u8 c]

set_option maxRecDepth 100000 in
theorem atEnd_any (fb cb L nx rb nr : Nat) (back : Value) (w : World) (hf : w.heap[fb]? = some (frmB cb L nx rb nr back)) :
    Calls Tryz.prog 185 #[P0 fb] w fun e w' => e = .returned (.bool (decide (nx = L))) ∧ w.grownBy w' none := by
  obtain ⟨c0, c1, _, _, _⟩ := frm_cells hf
  have hb : (((nx : Nat) : Int) == (L : Int)) = decide (nx = L) := by
    by_cases h : nx = L <;> simp [h]
    omega
  clear hf
  generalize decide (nx = L) = d at *
  go_enter Tryz.func185, Tryz.ntmps185
  go_wp2_with fail
  go_quiet (fail)
  go_wp2_with fail
  go_ret
  exact ⟨rfl, grown_drewN (grown_refl _ _) _⟩

theorem ofInt16 (a : Nat) (ha : a < 65536) : (BitVec.ofInt 16 (a : Int)).toNat = a := by
  rw [BitVec.ofInt_natCast, BitVec.toNat_ofNat]; exact Nat.mod_eq_of_lt (by omega)
theorem or16 (b c : Nat) (hb : b < 256) (hc : c < 256) : bits BinOp.or IntKind.u16 ((b : Int) * 256) (c : Int) = ((256 * b + c : Nat) : Int) := by
  have hx : b * 256 ||| c = 256 * b + c := by
    have := Nat.shiftLeft_add_eq_or_of_lt (i := 8) (b := c) (by omega) b
    rw [Nat.shiftLeft_eq, show (2 : Nat) ^ 8 = 256 from rfl] at this
    omega
  have e : ((b : Int) * 256) = ((b * 256 : Nat) : Int) := by omega
  rw [e]
  show IntKind.u16.wrap ((BitVec.ofInt 16 ((b * 256 : Nat) : Int) ||| BitVec.ofInt 16 (c : Int)).toNat : Int) = _
  rw [BitVec.toNat_or, ofInt16 (b * 256) (by omega), ofInt16 c (by omega), hx]
  simp [IntKind.wrap, IntKind.bits, IntKind.signed]
  omega

set_option maxRecDepth 100000 in
theorem pair_any (op a b c : Nat) (hb : b < 256) (hc : c < 256) (w : World) : Calls Tryz.prog 150 #[insV op a b c] w fun e w' => e = .returned (.int .u16 (256 * b + c : Nat)) ∧ w' = w.alloc (.cells #[.int .u8 op, .int .u8 a, .int .u8 b, .int .u8 c] 183) := by
  have h16 := or16 b c hb hc
  generalize 256 * b + c = x at *
  go_enter Tryz.func150, Tryz.ntmps150
  go_wp2_with fail
  go_ret
  exact ⟨rfl, rfl⟩

set_option maxRecDepth 100000 in
theorem target_any (op a b c : Nat) (hb : b < 256) (hc : c < 256) (w : World) : Calls Tryz.prog 154 #[insV op a b c] w fun e w' => e = .returned (.int .i64 (256 * b + c : Nat)) ∧ w.grownBy w' none := by
  have hp := pair_any op a b c hb hc
  have hx : 256 * b + c < 65536 := by omega
  generalize 256 * b + c = x at *
  have HP : Hid (∀ w, Calls Tryz.prog 150 #[insV op a b c] w fun e w' => e = .returned (.int .u16 x) ∧ w' = w.alloc (.cells #[.int .u8 op, .int .u8 a, .int .u8 b, .int .u8 c] 183)) := hp
  clear hp
  go_enter Tryz.func154, Tryz.ntmps154
  go_wp2_with fail
  refine (HP.out _).mono ?_
  rintro e w1 ⟨rfl, rfl⟩
  go_wp2_with fail
  go_ret
  exact ⟨rfl, grown_alloc (World.grownBy_alloc _ _ _) _⟩

set_option maxRecDepth 100000 in
theorem inumber_any (op a b c : Nat) (hb : b < 256) (hc : c < 256) (w : World) : Calls Tryz.prog 85 #[insV op a b c] w fun e w' => e = .returned (.int .i64 (B.wide b c)) ∧ w.grownBy w' none := by
  have hp := pair_any op a b c hb hc
  have hx : 256 * b + c < 65536 := by omega
  have hw : B.wide b c = if 256 * b + c < 32768 then ((256 * b + c : Nat) : Int) else ((256 * b + c : Nat) : Int) - 65536 := rfl
  generalize B.wide b c = y at *
  generalize 256 * b + c = x at *
  have HP : Hid (∀ w, Calls Tryz.prog 150 #[insV op a b c] w fun e w' => e = .returned (.int .u16 x) ∧ w' = w.alloc (.cells #[.int .u8 op, .int .u8 a, .int .u8 b, .int .u8 c] 183)) := hp
  have HW : Hid (y = if x < 32768 then (x : Int) else (x : Int) - 65536) := hw
  clear hp hw
  have hcv : IntKind.i16.wrap (x : Int) = y := by
    rw [HW.out]
    split <;> (simp [IntKind.wrap, IntKind.bits, IntKind.signed]; omega)
  have hy : -32768 ≤ y ∧ y ≤ 32767 := by rw [HW.out]; split <;> omega
  obtain ⟨hy1, hy2⟩ := hy
  go_enter Tryz.func85, Tryz.ntmps85
  go_wp2_with fail
  refine (HP.out _).mono ?_
  rintro e w1 ⟨rfl, rfl⟩
  go_wp2_with fail
  go_ret
  exact ⟨rfl, grown_alloc (World.grownBy_alloc _ _ _) _⟩

set_option maxRecDepth 100000 in
theorem top_any (tb sb cap fb : Nat) (w : World) (c1 : w.cell? ⟨tb, 1, none⟩ = some (.slice (some ⟨sb, 0, none⟩) 1 cap)) (hs : w.cell? ⟨sb, 0, none⟩ = some (P0 fb)) :
    Calls Tryz.prog 164 #[P0 tb] w fun e w' => e = .returned (P0 fb) ∧ w.grownBy w' none := by
  go_enter Tryz.func164, Tryz.ntmps164
  go_wp2_with fail
  go_quiet (fail)
  go_wp2_with fail
  go_ret
  exact ⟨rfl, grown_drewN (grown_refl _ _) _⟩

theorem frm_next {w : World} {fb cb L nx rb nr : Nat} {back : Value} (h : w.heap[fb]? = some (frmB cb L nx rb nr back)) (y : Nat) : (w.setCell ⟨fb, 1, none⟩ (.int .i64 y)).heap[fb]? = some (frmB cb L y rb nr back) := by
  simp [World.setCell, Array.getElem?_modify, h, frmB]

set_option maxRecDepth 100000 in
theorem take_any (fb cb L nx rb nr op a b c : Nat) (back : Value) (w : World) (hf : w.heap[fb]? = some (frmB cb L nx rb nr back)) (hnx : nx < L) (hL : L ≤ 200) (hcb : cb < w.heap.size)
    (k0 : w.cell? ⟨cb, nx * 4, none⟩ = some (.int .u8 op)) (k1 : w.cell? ⟨cb, nx * 4 + 1, none⟩ = some (.int .u8 a)) (k2 : w.cell? ⟨cb, nx * 4 + 2, none⟩ = some (.int .u8 b)) (k3 : w.cell? ⟨cb, nx * 4 + 3, none⟩ = some (.int .u8 c)) :
    Calls Tryz.prog 186 #[P0 fb] w fun e w' => e = .returned (insV op a b c) ∧ w.grownBy w' (some fb) ∧ w'.heap[fb]? = some (frmB cb L (nx + 1) rb nr back) := by
  obtain ⟨c0, c1, _, _, z1⟩ := frm_cells hf
  have l0 := heap_lt hf
  have l0' : fb < w.heap.size + 1 := by omega
  have l1' : cb < w.heap.size + 1 := by omega
  have HF : Hid (w.heap[fb]? = some (frmB cb L nx rb nr back)) := hf
  clear hf
  have hi : (nx : Int) < (L : Int) := by omega
  go_enter Tryz.func186, Tryz.ntmps186
  go_wp2_with fail
  go_region
  all_goals
    go_wp2_with fail
    refine bodyPost_ret (v := insV op a b c) (by simp [results, Tryz.results186, go_sem]) rfl ⟨rfl, ?_, ?_⟩
    · repeat (first | exact grown_refl _ _ | refine grown_drew ?_ | refine grown_alloc ?_ _ | refine grown_setCell ?_ (Or.inl rfl) _ | refine grown_setCell ?_ (Or.inr (by simp)) _)
    · show (World.alloc _ _).heap[fb]? = _
      rw [Below.heap_alloc _ _ _ (by simp [World.setCell]; omega), Below.heap_alloc _ _ _ (by simp [World.setCell]; omega)]
      have := frm_next HF.out (nx + 1)
      simpa using this
end Go.Proofs.YtnjiinbhbjpfkaaGreatDoor

/-
  What the closures of the table do: those whose a is a value that can always be told.
-/
namespace Go.Proofs.YtnjiinbhbjpfkaaGreatDoor
open Go.RowKit

/-- A frame and its registers. -/
def Fr (w : World) (fb cb L nx rb nr : Nat) (back : Value) (R : Nat → B.V) : Prop := w.heap[fb]? = some (frmB cb L nx rb nr back) ∧ Full w rb 149 (nr * 2) (nr * 2) (regP R) ∧ fb ≠ rb
theorem Fr.kept {w w' : World} {fb cb L nx rb nr : Nat} {back : Value} {R : Nat → B.V} (h : Fr w fb cb L nx rb nr back R) (hg : w.grownBy w' none) : Fr w' fb cb L nx rb nr back R :=
  ⟨grown_heap hg h.1 (by intro e; cases e), h.2.1.block (hg.block rb h.2.1.lt (by intro e; cases e)), h.2.2⟩

/-- The block of a step, behind a call that wrote nothing. -/
theorem box7 {w w1 : World} {a0 a1 a2 a3 a4 a5 a6 : Value} (hg : ((w.alloc (.cells #[a0, a1, a2, a3, a4, a5, a6] 186)).drew).grownBy w1 none) :
    w1.cell? ⟨w.heap.size, 0, none⟩ = some a0 ∧ w1.cell? ⟨w.heap.size, 1, none⟩ = some a1 ∧ w1.cell? ⟨w.heap.size, 2, none⟩ = some a2 ∧ w1.cell? ⟨w.heap.size, 3, none⟩ = some a3 ∧ w1.cell? ⟨w.heap.size, 4, none⟩ = some a4 ∧ w1.cell? ⟨w.heap.size, 5, none⟩ = some a5 ∧ w1.cell? ⟨w.heap.size, 6, none⟩ = some a6 ∧ w.heap.size < w1.heap.size := by
  have h1 : w1.heap[w.heap.size]? = some (.cells #[a0, a1, a2, a3, a4, a5, a6] 186 (0, 0)) := grown_heap hg (show _ from heap_alloc_new w _) (by intro e; cases e)
  exact ⟨by simp [World.cell?, h1], by simp [World.cell?, h1], by simp [World.cell?, h1], by simp [World.cell?, h1], by simp [World.cell?, h1], by simp [World.cell?, h1], by simp [World.cell?, h1], heap_lt h1⟩

set_option maxRecDepth 100000 in
/-- Num's value. -/
theorem num_any (op a b c fb tb eb : Nat) (hb : b < 256) (hc : c < 256) (w : World) :
    Calls Tryz.prog 84 #[stepV op a b c fb tb eb] w fun e w' => e = .returned (vA (0, B.wide b c)) ∧ w.grownBy w' none := by
  generalize hy : B.wide b c = y
  have HY : Hid (B.wide b c = y) := hy
  clear hy
  go_enter Tryz.func84, Tryz.ntmps84
  go_wp2_with fail
  refine (inumber_any op a b c hb hc _).mono ?_
  rw [HY.out]
  rintro e w1 ⟨rfl, hg⟩
  have hz := hg.size
  simp at hz
  obtain ⟨k0, k1⟩ := grown_cell hg (a := ⟨w.heap.size + 1, 0, none⟩) (by simp)
  obtain ⟨k2, k3⟩ := grown_cell hg (a := ⟨w.heap.size + 1, 1, none⟩) (by simp)
  simp [go_sem] at k0 k1 k2 k3
  have KG : Hid (w.grownBy w1 none) := grown_trans (grown_alloc (World.grownBy_alloc _ _ _) _) hg
  clear hg
  go_wp2_with fail
  refine (number_any y _).mono ?_
  rintro e w2 ⟨rfl, rfl⟩
  have l1 : w.heap.size + 1 < w1.heap.size := by omega
  go_wp2_with fail
  refine bodyPost_ret (v := vA (0, y)) (by simp [results, Tryz.results84, go_sem, l1, k0, k2]) rfl ⟨rfl, ?_⟩
  repeat (first | exact KG.out | refine grown_alloc ?_ _ | refine grown_setCell ?_ (Or.inr (by simp)) _)

set_option maxRecDepth 100000 in
set_option maxHeartbeats 2000000 in
/-- An instruction whose a is Num's value. -/
theorem gives70_any (op a b c fb tb eb cb L nx rb nr vb : Nat) (back : Value) (R : Nat → B.V) (hb : b < 256) (hc : c < 256) (ha : a < nr) (w : World) (hF : Fr w fb cb L nx rb nr back R) (hv : w.cell? ⟨vb, 0, none⟩ = some (Fv 84 #[])) (hvb : vb < w.heap.size) :
    Calls Tryz.prog 148 #[stepV op a b c fb tb eb, P0 vb] w fun e w' => e = .returned (.tuple #[]) ∧ w.grownBy w' (some rb) ∧ Fr w' fb cb L nx rb nr back (B.set R a (0, B.wide b c)) := by
  have KF : Hid (Fr w fb cb L nx rb nr back R) := hF
  clear hF
  have hn := num_any op a b c fb tb eb hb hc
  generalize B.wide b c = y at *
  have HN : Hid (∀ w, Calls Tryz.prog 84 #[stepV op a b c fb tb eb] w fun e w' => e = .returned (vA (0, y)) ∧ w.grownBy w' none) := hn
  clear hn
  go_enter Tryz.func148, Tryz.ntmps148
  go_wp2_with fail
  go_region_with (first | (go_at_call 84; refine (HN.out _).mono ?_; rintro e w1 ⟨rfl, hg1⟩; obtain ⟨s0, s1, s2, s3, s4, s5, s6, s7⟩ := box7 hg1; have KG1 : Hid (w.grownBy w1 none) := grown_trans (by repeat (first | exact grown_refl _ _ | refine grown_drew ?_ | refine grown_alloc ?_ _)) hg1; clear hg1) | (go_at_call 149; refine (set_any op a b c fb tb eb cb L nx rb nr back R (0, y) w1 (KF.out.kept KG1.out).1 (KF.out.kept KG1.out).2.1 ha).mono ?_; rintro e w2 ⟨rfl, hg2, hf2⟩))
  all_goals
    go_wp2_with fail
    go_end0
    refine ⟨rfl, grown_trans (grown_of_none KG1.out) hg2, grown_heap hg2 (KF.out.kept KG1.out).1 (by intro e; injection e with e; exact KF.out.2.2 e), hf2, KF.out.2.2⟩

set_option maxRecDepth 100000 in
/-- Num. -/
theorem act0_any (op a b c fb tb eb cb L nx rb nr wb vb : Nat) (back : Value) (R : Nat → B.V) (hb : b < 256) (hc : c < 256) (ha : a < nr) (w : World) (hF : Fr w fb cb L nx rb nr back R) (hwb : wb < w.heap.size) (hw : w.cell? ⟨wb, 0, none⟩ = some (Fv 148 #[P0 vb])) (hv : w.cell? ⟨vb, 0, none⟩ = some (Fv 84 #[])) (hvb : vb < w.heap.size) :
    Calls Tryz.prog 163 #[stepV op a b c fb tb eb, P0 wb] w fun e w' => e = .returned (.int .i64 0) ∧ w.grownBy w' (some rb) ∧ Fr w' fb cb L nx rb nr back (B.set R a (0, B.wide b c)) := by
  have KF : Hid (Fr w fb cb L nx rb nr back R) := hF
  clear hF
  go_enter Tryz.func163, Tryz.ntmps163
  go_wp2_with fail
  refine (gives70_any op a b c fb tb eb cb L nx rb nr vb back R hb hc ha _ (KF.out.kept (World.grownBy_alloc _ _ _)) (by simp [go_sem, hvb, hv]) (by simp; omega)).mono ?_
  rintro e w1 ⟨rfl, hg1, hF1⟩
  have KF1 : Hid (Fr w1 fb cb L nx rb nr back (B.set R a (0, B.wide b c))) := hF1
  have KG1 : Hid (w.grownBy w1 (some rb)) := grown_trans (World.grownBy_alloc _ _ _) hg1
  clear hF1 hg1
  go_wp2_with fail
  go_ret
  exact ⟨rfl, KG1.out, KF1.out⟩

end Go.Proofs.YtnjiinbhbjpfkaaGreatDoor

/-
  What the lines of tasks do: empty, first, join, stepOut; and the library's functions on lists of one task.
-/
namespace Go.Proofs.YtnjiinbhbjpfkaaGreatDoor
open Go.RowKit

abbrev Pt (b o : Nat) : Value := .pointer (some ⟨b, o, none⟩)

theorem empty_any (b o n c : Nat) (ad : Option Addr) (w : World) (h : w.cell? ⟨b, o, none⟩ = some (.slice ad n c)) :
    Calls Tryz.prog 70 #[Pt b o] w fun e w' => e = .returned (.bool (decide (n = 0))) ∧ w' = w := by
  have hb : (((n : Nat) : Int) == 0) = decide (n = 0) := by
    by_cases h : n = 0 <;> simp [h]
  generalize decide (n = 0) = d at *
  go_enter Tryz.func70, Tryz.ntmps70
  go_wp2_with fail
  go_ret
  exact ⟨rfl, rfl⟩

theorem first_any (b o n c qb tb : Nat) (w : World) (h : w.cell? ⟨b, o, none⟩ = some (.slice (some ⟨qb, 0, none⟩) (n + 1) c)) (h2 : w.cell? ⟨qb, 0, none⟩ = some (P0 tb)) :
    Calls Tryz.prog 132 #[Pt b o] w fun e w' => e = .returned (P0 tb) ∧ w' = w := by
  have hn : (0 : Int) < ((n + 1 : Nat) : Int) := by omega
  go_enter Tryz.func132, Tryz.ntmps132
  go_wp2_with fail
  go_ret
  exact ⟨rfl, rfl⟩

theorem lives_any (eb n c : Nat) (ad : Option Addr) (w : World) (h : w.cell? ⟨eb, 29, none⟩ = some (.slice ad n c)) :
    Calls Tryz.prog 66 #[P0 eb] w fun e w' => e = .returned (.bool (decide (0 < n))) ∧ w' = w := by
  go_enter Tryz.func66, Tryz.ntmps66
  go_wp2_with fail
  go_ret
  exact ⟨rfl, rfl⟩

theorem after_any (eb : Nat) (w : World) (h : w.cell? ⟨eb, 28, none⟩ = some (.int .i64 0)) :
    Calls Tryz.prog 64 #[P0 eb, .int .i64 0] w fun e w' => e = .returned (.int .i64 0) ∧ w' = w := by
  go_enter Tryz.func64, Tryz.ntmps64
  go_wp2_with fail
  go_ret
  exact ⟨rfl, rfl⟩

theorem receive_any (eb : Nat) (w : World) :
    Calls Tryz.prog 65 #[P0 eb, .slice none 0 0] w fun e w' => e = .returned (.tuple #[]) ∧ w' = w := by
  go_enter Tryz.func65, Tryz.ntmps65
  go_wp2_with fail
  go_loopw [10] (fun i wr => i = .int .i64 0 ∧ wr = w) (fun _ _ => 0)
  case atStart => exact ⟨rfl, rfl⟩
  case round =>
    obtain ⟨rfl, rfl⟩ := hrel
    go_wp2_with fail
    go_end0
    exact ⟨rfl, rfl⟩

theorem wake_any (eb c : Nat) (ad : Option Addr) (w : World) (h : w.cell? ⟨eb, 33, none⟩ = some (.slice ad 0 c)) :
    Calls Tryz.prog 67 #[P0 eb] w fun e w' => e = .returned (.tuple #[]) ∧ w.grownBy w' none := by
  have hE := fun (w' : World) (h : w'.cell? ⟨eb, 33, none⟩ = some (.slice ad 0 c)) => empty_any eb 33 0 c ad w' h
  simp only [decide_true] at hE
  go_enter Tryz.func67, Tryz.ntmps67
  go_wp2_with fail
  go_loopw [] (fun wr => wr = w) (fun _ => 0)
  case atStart => rfl
  case round =>
    subst hrel
    go_wp2_with fail
    go_quiet (first | (go_at_call 70; refine Calls.quiet_of_same (hE _ (by first | exact h | simpa using h))))
    go_wp2_with fail
    go_end0
    exact ⟨rfl, grown_drewN (grown_refl _ _) _⟩

theorem stepOut_none (tb : Nat) (w : World) (h : w.cell? ⟨tb, 3, none⟩ = some (.pointer none)) :
    Calls Tryz.prog 133 #[P0 tb] w fun e w' => e = .returned (.tuple #[]) ∧ w' = w := by
  go_enter Tryz.func133, Tryz.ntmps133
  go_wp2_with fail
  first | go_end0 | (simp only [Exit.inBlock, Exit.then]; refine bodyPost_ret (results_none rfl _ _ _) rfl ?_) | refine bodyPost_ret (results_none rfl _ _ _) rfl ?_
  exact ⟨rfl, rfl⟩

theorem Tryz.info155 : (Tryz.prog.info? 155).map (fun i => (i.zero, i.size, i.bytes)) = some (some (.pointer none), 1, 8) := by kernel_rfl

set_option maxRecDepth 100000 in
set_option maxHeartbeats 1000000 in
/-- A task is laid behind none. -/
theorem sinsert_any (ad : Option Addr) (cap base x : Nat) (y : Value) (hy : y.oneCell' = true) (w : World) (hown : w.ownsRow base 155 1 (.slice ad 0 cap) 0 []) (hx : w.cell? ⟨x, 0, none⟩ = some y) (hb : base ≤ w.heap.size) (hcap : ad ≠ none → 0 < cap) :
    Calls Tryz.prog 203 #[.slice ad 0 cap, .int .i64 0, .slice (some ⟨x, 0, none⟩) 1 1] w fun e w' => ∃ g c, e = .returned (.slice (some ⟨g, 0, none⟩) 1 c) ∧ w'.ownsRow base 155 1 (.slice (some ⟨g, 0, none⟩) 1 c) 1 [y] ∧ w.grownBy w' (Value.slice ad 0 cap).ownBlock := by
  obtain ⟨i0, hi, hz0, hz1, hz2⟩ := info_parts Tryz.info155
  have HO : Hid (w.ownsRow base 155 1 (.slice ad 0 cap) 0 []) := hown
  rcases hown.2 with ⟨h1, _⟩ | ⟨g, cap', cur, h1, _⟩
  · injection h1 with h1 h2 h3
    subst h1 h3
    clear hown
    go_enter Tryz.func203, Tryz.ntmps203
    go_wp2_with (at_builtin; refine wpList_append_own _ rfl (.tmp 23) (.tmp 24) 136 rfl base 155 i0 _ 1 8 Tryz.underlying136 hi hz0 hz1 hz2 rfl (by decide) _ _ _ rfl HO.out ⟨x, 0, none⟩ 1 1 [y] rfl rfl ?c1 ?c2 ?c3 ?c4 ?c5 ?_)
    try case c1 => intro j u hj; match j, hj with | 0, hj => (simp at hj; subst hj; simpa [Addr.add] using hx)
    try case c2 => intro u hu; simp at hu; subst hu; exact hy
    try case c3 => unfold maxLen; omega
    try case c4 => omega
    try case c5 => exact hb
    intro v' w' ho hg _
    obtain ⟨g, c, rfl⟩ := row_form ho (by omega)
    go_wp2_with fail
    go_ret
    exact ⟨g, c, rfl, ho, hg⟩
  · injection h1 with h1 h2 h3
    subst h1 h3
    clear hown
    have hc0 : 0 < cap := hcap (by simp)
    clear hcap
    go_enter Tryz.func203, Tryz.ntmps203
    go_wp2_with (at_builtin; refine wpList_append_own _ rfl (.tmp 23) (.tmp 24) 136 rfl base 155 i0 _ 1 8 Tryz.underlying136 hi hz0 hz1 hz2 rfl (by decide) _ _ _ rfl HO.out ⟨x, 0, none⟩ 1 1 [y] rfl rfl ?c1 ?c2 ?c3 ?c4 ?c5 ?_)
    try case c1 => intro j u hj; match j, hj with | 0, hj => (simp at hj; subst hj; simpa [Addr.add] using hx)
    try case c2 => intro u hu; simp at hu; subst hu; exact hy
    try case c3 => unfold maxLen; omega
    try case c4 => omega
    try case c5 => exact hb
    intro v' w' ho hg _
    obtain ⟨g, c, rfl⟩ := row_form ho (by omega)
    go_wp2_with fail
    go_ret
    exact ⟨g, c, rfl, ho, hg⟩

end Go.Proofs.YtnjiinbhbjpfkaaGreatDoor
