/-
  Small facts on worlds: calls that write into one block or none and make new ones; blocks of which all is known; new blocks of one cell.
-/
import Derived.Test.YtnjiinbhbjpfkaaGreatDoorRows
import Derived.WalkKit
import Derived.WalkSpells
import Derived.WalkLawsBesides
import Derived.BigQuiet
import Derived.BigRegion
import Derived.Deep.QuietTactic
import Derived.Deep.MidRow
import Derived.Deep.RegionLawGrows
import Derived.Deep.DeepCutAuto
import Derived.Laws.ByValue
import Derived.Test.YtnjiinbhbjpfkaaGreatDoorCards
import Derived.Test.YtnjiinbhbjpfkaaGreatDoorTie
import Derived.ProofKit
import Derived.LaidMore
import Derived.OpenShut
import Derived.Stop.Joined
import Derived.Lib.SmallJoins
import Derived.Carry
import Derived.ChangeSlices
namespace Go.Proofs.YtnjiinbhbjpfkaaGreatDoor
open Go.RowKit
abbrev P0 (b : Nat) : Value := .pointer (some ⟨b, 0, none⟩)
abbrev Fv (k : Nat) (cap : Array Value) : Value := .func (.func k) #[] cap
theorem grown_refl (w : World) (row : Option Nat) : w.grownBy w row := ⟨rfl, rfl, rfl, Nat.le_refl _, fun _ _ _ => rfl⟩
theorem grown_trans {w w1 w2 : World} {row : Option Nat} (h : w.grownBy w1 row) (k : w1.grownBy w2 row) : w.grownBy w2 row :=
  ⟨k.os.trans h.os, k.tape.trans h.tape, k.output.trans h.output, Nat.le_trans h.size k.size, fun i hi hr => (k.block i (Nat.lt_of_lt_of_le hi h.size) hr).trans (h.block i hi hr)⟩
theorem grown_drewN {w w1 : World} {row : Option Nat} (h : w.grownBy w1 row) (n : Nat) : w.grownBy (w1.drewN n) row := ⟨h.os, h.tape, h.output, h.size, h.block⟩
theorem grown_drew {w w1 : World} {row : Option Nat} (h : w.grownBy w1 row) : w.grownBy w1.drew row := ⟨h.os, h.tape, h.output, h.size, h.block⟩
theorem grown_alloc {w w1 : World} {row : Option Nat} (h : w.grownBy w1 row) (o : Obj) : w.grownBy (w1.alloc o) row := grown_trans h (World.grownBy_alloc _ _ _)
theorem grown_setCell {w w1 : World} {row : Option Nat} (h : w.grownBy w1 row) {a : Addr} (ha : some a.block = row ∨ w.heap.size ≤ a.block) (v : Value) : w.grownBy (w1.setCell a v) row := by
  refine ⟨h.os, h.tape, h.output, Nat.le_trans h.size (by simp [World.setCell]), fun i hi hr => ?_⟩
  rw [Below.heap_setCell]
  · exact h.block i hi hr
  · rintro rfl
    rcases ha with ha | ha
    · exact hr ha
    · omega
theorem heap_lt {w : World} {b : Nat} {o : Obj} (h : w.heap[b]? = some o) : b < w.heap.size := (Array.getElem?_eq_some_iff.1 h).1
theorem grown_heap {w w1 : World} {row : Option Nat} (h : w.grownBy w1 row) {k : Nat} {o : Obj} (hk : w.heap[k]? = some o) (hr : some k ≠ row) : w1.heap[k]? = some o :=
  (h.block k (heap_lt hk) hr).trans hk
def Full (w : World) (g : Nat) (T : TypeId) (n m : Nat) (P : Nat → Value) : Prop := ∃ cur, w.heap[g]? = some (.cells cur T (0, 0)) ∧ cur.size = n ∧ ∀ j, j < m → cur[j]? = some (P j)
def Blk (w : World) (g : Nat) (T : TypeId) (n : Nat) : Prop := ∃ cur, w.heap[g]? = some (.cells cur T (0, 0)) ∧ cur.size = n
theorem Blk.lt {w : World} {g n : Nat} {T : TypeId} (h : Blk w g T n) : g < w.heap.size := by obtain ⟨_, h, _⟩ := h; exact heap_lt h
theorem Blk.cell {w : World} {g n : Nat} {T : TypeId} (h : Blk w g T n) (j : Nat) (hj : j < n) : (∃ v, w.cell? ⟨g, j, none⟩ = some v) ∧ w.frozen? ⟨g, j, none⟩ = false := by
  obtain ⟨cur, h, hc⟩ := h
  have hj' : j < cur.size := by omega
  exact ⟨⟨cur[j], by simp [World.cell?, h, hj']⟩, by simp [World.frozen?, h]⟩
theorem Blk.set {w : World} {g n : Nat} {T : TypeId} (h : Blk w g T n) (x o : Nat) (v : Value) : Blk (w.setCell ⟨x, o, none⟩ v) g T n := by
  obtain ⟨cur, h, hc⟩ := h
  by_cases e : g = x
  · subst e
    refine ⟨cur.setIfInBounds o v, ?_, by simpa using hc⟩
    simp [World.setCell, Array.getElem?_modify, h]
  · exact ⟨cur, (Below.heap_setCell _ _ _ _ e).trans h, hc⟩
theorem Blk.owned {w : World} {g n cap base size : Nat} {e : TypeId} {xs : List Value} (h : w.ownsRow base e size (.slice (some ⟨g, 0, none⟩) n cap) n xs) : Blk w g e (cap * size) := by
  rcases h.2 with ⟨h, _⟩ | ⟨g', cap', cur, h1, _, h2, _, _, h3, _⟩
  · cases h
  · cases h1; exact ⟨cur, h2, h3⟩
theorem Full.blk {w : World} {g n m : Nat} {T : TypeId} {P : Nat → Value} (h : Full w g T n m P) : Blk w g T n := by obtain ⟨cur, h, hc, _⟩ := h; exact ⟨cur, h, hc⟩
theorem Blk.full {w : World} {g n : Nat} {T : TypeId} (h : Blk w g T n) (P : Nat → Value) : Full w g T n 0 P := by obtain ⟨cur, h, hc⟩ := h; exact ⟨cur, h, hc, fun j hj => absurd hj (Nat.not_lt_zero j)⟩
theorem Full.set {w : World} {g n m : Nat} {T : TypeId} {P : Nat → Value} (h : Full w g T n m P) (hm : m < n) : Full (w.setCell ⟨g, m, none⟩ (P m)) g T n (m + 1) P := by
  obtain ⟨cur, h, hc, hj⟩ := h
  refine ⟨cur.setIfInBounds m (P m), by simp [World.setCell, Array.getElem?_modify, h], by simpa using hc, fun j hj' => ?_⟩
  rw [Array.getElem?_setIfInBounds]
  by_cases e : m = j
  · subst e; simp; omega
  · rw [if_neg e]; exact hj j (by omega)
theorem Full.block {w w' : World} {g n m : Nat} {T : TypeId} {P : Nat → Value} (h : Full w g T n m P) (hb : w'.heap[g]? = w.heap[g]?) : Full w' g T n m P := by
  obtain ⟨cur, h, r⟩ := h; exact ⟨cur, hb.trans h, r⟩
theorem Full.lt {w : World} {g n m : Nat} {T : TypeId} {P : Nat → Value} (h : Full w g T n m P) : g < w.heap.size := h.blk.lt
theorem Full.kept {w w' : World} {g n m b : Nat} {T : TypeId} {P : Nat → Value} (h : Full w g T n m P) (hg : w.grownBy w' (some b)) (hb : g ≠ b) : Full w' g T n m P :=
  h.block (hg.block g h.lt (by intro e; injection e; omega))
theorem Full.cell {w : World} {g n m : Nat} {T : TypeId} {P : Nat → Value} (h : Full w g T n m P) (j : Nat) (hj : j < m) : w.cell? ⟨g, j, none⟩ = some (P j) := by
  obtain ⟨cur, h, _, hP⟩ := h
  simp [World.cell?, h, hP j hj]
theorem Full.sets4 {w : World} {g n m : Nat} {T : TypeId} {P : Nat → Value} (h : Full w g T n m P) (hm : m + 4 ≤ n) (v0 v1 v2 v3 : Value) (e0 : v0 = P m) (e1 : v1 = P (m + 1)) (e2 : v2 = P (m + 2)) (e3 : v3 = P (m + 3)) :
    Full (w.setCells g m [v0, v1, v2, v3]) g T n (m + 4) P := by
  subst e0 e1 e2 e3
  exact (((h.set (by omega)).set (by omega)).set (by omega)).set (by omega)
theorem Full.sets2 {w : World} {g n m : Nat} {T : TypeId} {P : Nat → Value} (h : Full w g T n m P) (hm : m + 2 ≤ n) (v0 v1 : Value) (e0 : v0 = P m) (e1 : v1 = P (m + 1)) :
    Full (w.setCells g m [v0, v1]) g T n (m + 2) P := by
  subst e0 e1
  exact (h.set (by omega)).set (by omega)
theorem grown_of_none {w w' : World} {row : Option Nat} (h : w.grownBy w' none) : w.grownBy w' row := ⟨h.os, h.tape, h.output, h.size, fun k hk _ => h.block k hk (by intro e; cases e)⟩
theorem Blk.there {w : World} {g n : Nat} {T : TypeId} (h : Blk w g T n) (o m : Nat) (hm : o + m ≤ n) : w.there g o m := fun j hj => by
  obtain ⟨⟨v, h1⟩, h2⟩ := h.cell (o + j) (by omega)
  exact ⟨by rw [h1]; rfl, h2⟩
theorem Blk.sets {g n : Nat} {T : TypeId} (x : Nat) : ∀ (vs : List Value) (o : Nat) (w : World), Blk w g T n → Blk (w.setCells x o vs) g T n
  | [], _, _, h => h
  | v :: r, o, w, h => Blk.sets x r (o + 1) (w.setCell ⟨x, o, none⟩ v) (h.set x o v)
theorem heap_setCells (x k : Nat) (hk : k ≠ x) : ∀ (vs : List Value) (o : Nat) (w : World), (w.setCells x o vs).heap[k]? = w.heap[k]?
  | [], _, _ => rfl
  | v :: r, o, w => by rw [World.setCells, heap_setCells x k hk r]; exact Below.heap_setCell _ _ _ _ hk
theorem grown_setCells {row : Option Nat} (g : Nat) : ∀ (vs : List Value) (o : Nat) (w w1 : World), w.grownBy w1 row → w.heap.size ≤ g → w.grownBy (w1.setCells g o vs) row
  | [], _, _, _, h, _ => h
  | v :: r, o, w, w1, h, hg => grown_setCells g r (o + 1) w (w1.setCell ⟨g, o, none⟩ v) (grown_setCell h (Or.inr hg) v) hg
theorem below_of_grown {w w' : World} {o : Obj} (h : (w.alloc o).grownBy w' (some w.heap.size)) : Below w.heap.size w w' :=
  ⟨h.os, h.tape, h.output, by have := h.size; simp at this; omega, fun k hk => (h.block k (by simp; omega) (by intro e; injection e; omega)).trans (Below.heap_alloc _ _ _ hk)⟩
theorem bcell {W w1 : World} (hb : Below W.heap.size W w1) : (∀ b o, b < W.heap.size → w1.cell? ⟨b, o, none⟩ = W.cell? ⟨b, o, none⟩) ∧ (∀ b o, b < W.heap.size → w1.frozen? ⟨b, o, none⟩ = W.frozen? ⟨b, o, none⟩) :=
  ⟨fun b o h => hb.cell (p := ⟨b, o, none⟩) h, fun b o h => hb.frozen (p := ⟨b, o, none⟩) h⟩
theorem below_none {w w' : World} (h : w.grownBy w' none) : Below w.heap.size w w' := ⟨h.os, h.tape, h.output, h.size, fun k hk => h.block k hk (by intro e; cases e)⟩
theorem row_form {w : World} {base size n : Nat} {e : TypeId} {v : Value} {xs : List Value} (h : w.ownsRow base e size v n xs) (hn : n ≠ 0) : ∃ g cap, v = .slice (some ⟨g, 0, none⟩) n cap := by
  rcases h.2 with ⟨_, h⟩ | ⟨g', cap', _, h, _⟩
  · omega
  · exact ⟨g', cap', h⟩
theorem grown_cell {w w1 : World} (h : w.grownBy w1 none) {a : Addr} (ha : a.block < w.heap.size) : w1.cell? a = w.cell? a ∧ w1.frozen? a = w.frozen? a :=
  ⟨World.cell?_of_block (h.block a.block ha (by intro e; cases e)), World.frozen?_of_block (h.block a.block ha (by intro e; cases e))⟩
def laid1 (w : World) : List (Value × TypeId) → World
  | [] => w
  | x :: r => laid1 (w.alloc (.cells #[x.1] x.2)) r
theorem laid1_below (l : List (Value × TypeId)) : ∀ (w : World), Below w.heap.size w (laid1 w l) := by
  induction l with
  | nil => intro w; exact Below.refl _ _
  | cons x r ih => intro w; exact ((Below.refl _ _).alloc (Nat.le_refl _) _).trans ((ih _).mono (by simp))
theorem laid1_size (l : List (Value × TypeId)) : ∀ (w : World), (laid1 w l).heap.size = w.heap.size + l.length := by
  induction l with
  | nil => intro w; rfl
  | cons x r ih => intro w; rw [laid1, ih]; simp; omega
theorem laid1_at (l : List (Value × TypeId)) : ∀ (w : World) (k : Nat) (x : Value × TypeId), l[k]? = some x → (laid1 w l).heap[w.heap.size + k]? = some (.cells #[x.1] x.2 (0, 0)) := by
  induction l with
  | nil => intro w k x h; simp at h
  | cons y r ih =>
    intro w k x h
    cases k with
    | zero =>
      simp at h; subst h
      rw [laid1]
      exact ((laid1_below r (w.alloc (.cells #[y.1] y.2))).block _ (by simp)).trans (heap_alloc_new w _)
    | succ k =>
      have := ih (w.alloc (.cells #[y.1] y.2)) k x (by simpa using h)
      rw [laid1]
      simpa [Nat.add_assoc, Nat.add_comm 1 k] using this
theorem results_cell {fn : Func} {p : Tmp} {ty : TypeId} {a : Addr} {v : Value} {P : Program} {w : World} (h : fn.results = #[.cell p ty]) (tmps : Array Value) (hp : tmps.getD p undef = .pointer (some a)) (hl : (loadVar ty a).run P w = .ok v w) :
    (results fn tmps).run P w = .ok v w := by
  have hp' : tmps[p]?.getD undef = .pointer (some a) := by simpa using hp
  simp [results, h, hp', asAddr, hl]
theorem setCells_size (g : Nat) : ∀ (vs : List Value) (o : Nat) (w : World), (w.setCells g o vs).heap.size = w.heap.size
  | [], _, _ => rfl
  | v :: r, o, w => by rw [World.setCells, setCells_size g r]; simp [World.setCell]
theorem step_append_own {P : Program} {ops : Array Oper} {o : Oper} {a : Act} {w : World} {K : Act → World → Prop} {Q : Exit → Act → World → Prop} {E : Prop}
    (hg : o.guard = none) (s x : Operand) (t : TypeId) (hop : o.op = Op.call { callee := Callee.builtin Builtin.append, args := #[s, x], argTypes := #[t, t] })
    (base : Nat) (e : TypeId) (i : TypeInfo) (z : Value) (size bytes : Nat) (h1 : P.underlying t = some (.slice e)) (h2 : P.info? e = some i) (h3 : i.zero = some z) (h4 : i.size = size) (h5 : i.bytes = bytes) (h6 : z.cells.size = size) (h7 : 0 < size)
    (v : Value) (n : Nat) (xs : List Value) (hs : a.eval s = v) (hown : w.ownsRow base e size v n xs)
    (ad : Addr) (m c : Nat) (news : List Value) (hx : a.eval x = .slice (some ad) m c) (hn : news.length = m * size) (hc : ∀ j u, news[j]? = some u → w.cell? (ad.add j) = some u) (h1c : ∀ u ∈ news, u.oneCell' = true)
    (b1 : n + m ≤ maxLen) (b2 : (n + m) * bytes ≤ 140737488355328) (hb : base ≤ w.heap.size)
    (hK : ∀ v' w', w'.ownsRow base e size v' (n + m) (xs ++ news) → w.grownBy w' v.ownBlock → K (a.put o.dst v') w') :
    if Region.wanted o (yielded ops a.tmps) = true then Oper.wp P o a w K Q else E := by
  have hw : Region.wanted o (yielded ops a.tmps) = true := by simp [Region.wanted, hg]
  rw [if_pos hw]
  obtain ⟨v', w', hrun, r1, r2, _⟩ := run_append_own (P := P) w base t o.type e i z size bytes h1 h2 h3 h4 h5 h6 h7 v n xs hown ad m c news hn hc h1c b1 b2 hb
  unfold Oper.wp
  simp [execOp, hop, resolve, invoke, builtin, hs, hx, hrun, Result.andThen]
  exact hK v' w' r1 r2
theorem below_own {w w1 w2 : World} {v : Value} {base size n : Nat} {e : TypeId} {xs : List Value} (h : Below w.heap.size w w1) (hg : w1.grownBy w2 v.ownBlock) (ho : w1.ownsRow base e size v n xs) (hb : w.heap.size ≤ base) : Below w.heap.size w w2 := by
  refine h.trans ⟨hg.os, hg.tape, hg.output, hg.size, fun k hk => hg.block k (Nat.lt_of_lt_of_le hk h.size) ?_⟩
  rcases ho.2 with ⟨rfl, _⟩ | ⟨g, cap, cur, rfl, hg2, _⟩
  · intro e; cases e
  · intro e; have e' : k = g := by injection e
    omega
theorem own_alloc {w : World} {base size n : Nat} {e : TypeId} {v : Value} {xs : List Value} (h : w.ownsRow base e size v n xs) (o : Obj) : (w.alloc o).ownsRow base e size v n xs := by
  refine ⟨h.1, ?_⟩
  rcases h.2 with h2 | ⟨g, cap, cur, h1, h2, h3, h4⟩
  · exact Or.inl h2
  · exact Or.inr ⟨g, cap, cur, h1, h2, (Below.heap_alloc _ _ _ (heap_lt h3)).trans h3, h4⟩
theorem own_drew {w : World} {base size n : Nat} {e : TypeId} {v : Value} {xs : List Value} (h : w.ownsRow base e size v n xs) : w.drew.ownsRow base e size v n xs := h
end Go.Proofs.YtnjiinbhbjpfkaaGreatDoor
namespace Go.Proofs.YtnjiinbhbjpfkaaGreatDoor.M
def bt (s : ByteArray) (p : Nat) : Nat := (s.data[p]?.getD 0).toNat
def tk (s : ByteArray) (p lo hi : Nat) : Bool := decide (p < s.size ∧ lo ≤ bt s p ∧ bt s p ≤ hi)
def kd : List (List Nat) := [[114, 107, 107], [114, 114, 45], [114, 114, 114], [114, 114, 114], [114, 114, 114], [114, 114, 114], [114, 114, 114], [45, 116, 116], [114, 116, 116], [114, 115, 45], [114, 114, 114], [114, 114, 114], [114, 102, 114], [114, 114, 114], [114, 45, 45], [114, 114, 114], [45, 45, 45], [114, 45, 45], [114, 114, 45], [114, 45, 45], [114, 45, 45], [114, 114, 45], [114, 45, 45]]
def k0 (op : Nat) : Nat := (kd.getD op []).getD 0 0
def k1 (op : Nat) : Nat := (kd.getD op []).getD 1 0
def k2 (op : Nat) : Nat := (kd.getD op []).getD 2 0
def hiOf (r f k : Nat) : Nat := if k = 114 then r - 1 else if k = 102 then f - 1 else if k = 115 then 8 else if k = 107 then 255 else 0
def tgt (s : ByteArray) (p l : Nat) : Nat × Bool :=
  if s.size < p + 2 then (s.size, false) else if l < 256 * bt s p + bt s (p + 1) then (p, false) else (p + 2, true)
def opn (s : ByteArray) (p op r f l : Nat) : Nat × Bool :=
  if tk s p 0 (hiOf r f (k0 op)) = true then
    if k1 op = 116 then tgt s (p + 1) l
    else if tk s (p + 1) 0 (hiOf r f (k1 op)) = true then
      if tk s (p + 2) 0 (hiOf r f (k2 op)) = true then (p + 3, true) else (p + 2, false)
    else (p + 1, false)
  else (p, false)
def ins (s : ByteArray) (p r f l : Nat) : Nat × Bool :=
  if tk s p 0 22 = true then opn s (p + 1) (bt s p) r f l else (p, false)
def code (s : ByteArray) (r f l : Nat) : Nat → Nat → Nat × Bool
  | p, 0 => (p, true)
  | p, n + 1 => if (ins s p r f l).2 = true then code s r f l (ins s p r f l).1 n else ((ins s p r f l).1, false)
def fn (s : ByteArray) (p f : Nat) : Nat × Bool :=
  if tk s p 2 8 = true then
    if tk s (p + 1) 1 200 = true then code s (bt s p) f (bt s (p + 1)) (p + 2) (bt s (p + 1)) else (p + 1, false)
  else (p, false)
def fns (s : ByteArray) (f : Nat) : Nat → Nat → Nat × Bool
  | p, 0 => (p, true)
  | p, n + 1 => if (fn s p f).2 = true then fns s f (fn s p f).1 n else ((fn s p f).1, false)
def prg (s : ByteArray) : Nat × Bool :=
  if tk s 0 1 8 = true then ((fns s (bt s 0) 1 (bt s 0)).1, (fns s (bt s 0) 1 (bt s 0)).2 && decide ((fns s (bt s 0) 1 (bt s 0)).1 = s.size)) else (0, false)
def ops (s : ByteArray) (r f l : Nat) : List Nat → Nat → Nat × Bool
  | [], q => (q, true)
  | k :: ks, q => if k = 116 then tgt s q l else if tk s q 0 (hiOf r f k) = true then ops s r f l ks (q + 1) else (q, false)
theorem kd_facts : ∀ op, op < 23 → kd.getD op [] = [k0 op, k1 op, k2 op] ∧ k0 op ≠ 116 ∧ (k1 op ≠ 116 → k2 op ≠ 116) := by decide
theorem ops_opn (s : ByteArray) (p op r f l : Nat) (h : op < 23) : ops s r f l (kd.getD op []) p = opn s p op r f l := by
  obtain ⟨h1, h2, h3⟩ := kd_facts op h
  rw [h1]
  unfold opn
  simp only [ops, if_neg h2]
  by_cases h4 : k1 op = 116
  · simp only [if_pos h4]
  · simp only [if_neg h4, if_neg (h3 h4)]
theorem bt_lt (s : ByteArray) (p : Nat) : bt s p < 256 := by
  unfold bt; exact UInt8.toNat_lt _
theorem bt_at (s : ByteArray) (p : Nat) (h : p < s.size) : bt s p = (s[p]'h).toNat := by
  have h' : p < s.data.size := h
  unfold bt
  rw [Array.getElem?_eq_getElem h']
  rfl
theorem tk_lt {s : ByteArray} {p lo hi : Nat} (h : tk s p lo hi = true) : p < s.size ∧ lo ≤ bt s p ∧ bt s p ≤ hi := by
  simpa [tk] using h
theorem tgt_le {s : ByteArray} {p l : Nat} (h : p ≤ s.size) : p ≤ (tgt s p l).1 ∧ (tgt s p l).1 ≤ s.size := by
  unfold tgt; split
  · exact ⟨h, Nat.le_refl _⟩
  · split <;> simp <;> omega
theorem opn_le {s : ByteArray} {p op r f l : Nat} (h : p ≤ s.size) : p ≤ (opn s p op r f l).1 ∧ (opn s p op r f l).1 ≤ s.size := by
  unfold opn
  split
  · rename_i h1
    have := tk_lt h1
    split
    · have := tgt_le (s := s) (p := p + 1) (l := l) (by omega); omega
    · split
      · rename_i h2
        have := tk_lt h2
        split
        · rename_i h3
          have := tk_lt h3
          simp; omega
        · simp; omega
      · simp; omega
  · simp; omega
theorem ins_le {s : ByteArray} {p r f l : Nat} (h : p ≤ s.size) : p ≤ (ins s p r f l).1 ∧ (ins s p r f l).1 ≤ s.size := by
  unfold ins
  split
  · rename_i h1
    have := tk_lt h1
    have := opn_le (s := s) (p := p + 1) (op := bt s p) (r := r) (f := f) (l := l) (by omega); omega
  · simp; omega
theorem opn_yes {s : ByteArray} {p op r f l : Nat} (h : (opn s p op r f l).2 = true) : (opn s p op r f l).1 = p + 3 := by
  unfold opn at *
  by_cases h1 : tk s p 0 (hiOf r f (k0 op)) = true
  · rw [if_pos h1] at h ⊢
    by_cases h2 : k1 op = 116
    · rw [if_pos h2] at h ⊢
      unfold tgt at *
      by_cases h3 : s.size < p + 1 + 2
      · rw [if_pos h3] at h; simp at h
      · rw [if_neg h3] at h ⊢
        by_cases h4 : l < 256 * bt s (p + 1) + bt s (p + 1 + 1)
        · rw [if_pos h4] at h; simp at h
        · rw [if_neg h4]
    · rw [if_neg h2] at h ⊢
      by_cases h3 : tk s (p + 1) 0 (hiOf r f (k1 op)) = true
      · rw [if_pos h3] at h ⊢
        by_cases h4 : tk s (p + 2) 0 (hiOf r f (k2 op)) = true
        · rw [if_pos h4]
        · rw [if_neg h4] at h; simp at h
      · rw [if_neg h3] at h; simp at h
  · rw [if_neg h1] at h; simp at h
theorem ins_yes {s : ByteArray} {p r f l : Nat} (h : (ins s p r f l).2 = true) : (ins s p r f l).1 = p + 4 := by
  unfold ins at *
  split at h
  · rw [if_pos (by assumption), opn_yes h]
  · simp at h
theorem code_le {s : ByteArray} {r f l : Nat} (n : Nat) : ∀ p, p ≤ s.size → p ≤ (code s r f l p n).1 ∧ (code s r f l p n).1 ≤ s.size := by
  induction n with
  | zero => intro p h; simp [code]; exact h
  | succ n ih =>
    intro p h
    have hi := ins_le (s := s) (p := p) (r := r) (f := f) (l := l) h
    unfold code
    split
    · have := ih _ hi.2; omega
    · exact hi
theorem fn_le {s : ByteArray} {p f : Nat} (h : p ≤ s.size) : p ≤ (fn s p f).1 ∧ (fn s p f).1 ≤ s.size := by
  unfold fn
  split
  · rename_i h1
    have := tk_lt h1
    split
    · rename_i h2
      have := tk_lt h2
      have := code_le (s := s) (r := bt s p) (f := f) (l := bt s (p + 1)) (bt s (p + 1)) (p + 2) (by omega)
      omega
    · simp; omega
  · simp; omega
def letters (S : ByteArray) : List Nat := S.data.toList.map UInt8.toNat
def KS (op : Nat) : ByteArray := ⟨((kd.getD op []).map UInt8.ofNat).toArray⟩
theorem KS_facts : ∀ op, op < 23 → letters (KS op) = kd.getD op [] ∧ (KS op).size = 3 := by decide
theorem letters_drop (S : ByteArray) (k : Nat) (h : k < S.size) : (letters S).drop k = S[k].toNat :: (letters S).drop (k + 1) := by
  have h' : k < (letters S).length := by simpa [letters] using h
  rw [List.drop_eq_getElem_cons h']
  simp [letters]; rfl
theorem letters_end (S : ByteArray) : (letters S).drop S.size = [] := by
  apply List.drop_of_length_le; simp [letters]
theorem bt_extract (s : ByteArray) (p q i : Nat) (h : q ≤ s.size) (hi : p + i < q) : bt (s.extract p q) i = bt s (p + i) := by
  unfold bt
  have : (s.extract p q).data = s.data.extract p q := by simp
  rw [this, Array.getElem?_extract]
  have h' : q ≤ s.data.size := h
  rw [if_pos (by omega)]
theorem code_yes {s : ByteArray} {r f l : Nat} (n : Nat) : ∀ p, (code s r f l p n).2 = true → (code s r f l p n).1 = p + 4 * n := by
  induction n with
  | zero => intro p _; rfl
  | succ n ih =>
    intro p h
    unfold code at h ⊢
    by_cases h1 : (ins s p r f l).2 = true
    · rw [if_pos h1] at h ⊢
      rw [ih _ h, ins_yes h1]; omega
    · rw [if_neg h1] at h; simp at h
theorem fn_yes {s : ByteArray} {p f : Nat} (h : (fn s p f).2 = true) : (fn s p f).1 = p + 2 + 4 * bt s (p + 1) ∧ 2 ≤ bt s p ∧ bt s p ≤ 8 ∧ 1 ≤ bt s (p + 1) ∧ bt s (p + 1) ≤ 200 := by
  unfold fn at *
  by_cases h1 : tk s p 2 8 = true
  · rw [if_pos h1] at h ⊢
    by_cases h2 : tk s (p + 1) 1 200 = true
    · rw [if_pos h2] at h ⊢
      have := tk_lt h1
      have := tk_lt h2
      refine ⟨code_yes _ _ h, by omega, by omega, by omega, by omega⟩
    · rw [if_neg h2] at h; simp at h
  · rw [if_neg h1] at h; simp at h
def pos (s : ByteArray) : Nat → Nat
  | 0 => 1
  | k + 1 => pos s k + 2 + 4 * bt s (pos s k + 1)
end Go.Proofs.YtnjiinbhbjpfkaaGreatDoor.M
namespace Go.Proofs.YtnjiinbhbjpfkaaGreatDoor
open Go.RowKit
def rdA (s : ByteArray) (p f r l : Int) : Obj := .cells #[.string s, .int .i64 p, .int .i64 f, .int .i64 r, .int .i64 l] 128 (0, 0)
section
variable {w : World} {b : Nat} {s : ByteArray} {p f r l : Int}
theorem rdA_cells (h : w.heap[b]? = some (rdA s p f r l)) : w.cell? ⟨b, 0, none⟩ = some (.string s) ∧ w.cell? ⟨b, 1, none⟩ = some (.int .i64 p) ∧ w.cell? ⟨b, 2, none⟩ = some (.int .i64 f) ∧ w.cell? ⟨b, 3, none⟩ = some (.int .i64 r) ∧ w.cell? ⟨b, 4, none⟩ = some (.int .i64 l) := by
  simp [World.cell?, h, rdA]
theorem rdA_frozen (h : w.heap[b]? = some (rdA s p f r l)) : w.frozen? ⟨b, 1, none⟩ = false ∧ w.frozen? ⟨b, 2, none⟩ = false ∧ w.frozen? ⟨b, 3, none⟩ = false ∧ w.frozen? ⟨b, 4, none⟩ = false := by
  simp [World.frozen?, h, rdA]
theorem rdA_set1 (h : w.heap[b]? = some (rdA s p f r l)) (v : Int) : (w.setCell ⟨b, 1, none⟩ (.int .i64 v)).heap[b]? = some (rdA s v f r l) := by
  simp [World.setCell, Array.getElem?_modify, h, rdA]
theorem rdA_set2 (h : w.heap[b]? = some (rdA s p f r l)) (v : Int) : (w.setCell ⟨b, 2, none⟩ (.int .i64 v)).heap[b]? = some (rdA s p v r l) := by
  simp [World.setCell, Array.getElem?_modify, h, rdA]
theorem rdA_set3 (h : w.heap[b]? = some (rdA s p f r l)) (v : Int) : (w.setCell ⟨b, 3, none⟩ (.int .i64 v)).heap[b]? = some (rdA s p f v l) := by
  simp [World.setCell, Array.getElem?_modify, h, rdA]
theorem rdA_set4 (h : w.heap[b]? = some (rdA s p f r l)) (v : Int) : (w.setCell ⟨b, 4, none⟩ (.int .i64 v)).heap[b]? = some (rdA s p f r v) := by
  simp [World.setCell, Array.getElem?_modify, h, rdA]
end
set_option maxHeartbeats 400000 in
theorem take_end (b : Nat) (s : ByteArray) (f r l lo hi : Int) (w : World) (h : w.heap[b]? = some (rdA s s.size f r l)) :
    Calls Tryz.prog 81 #[.pointer (some ⟨b, 0, none⟩), .int .i64 lo, .int .i64 hi] w fun e w' => e = .returned (.tuple #[.int .i64 0, .bool false]) ∧ ∃ n, w' = w.drewN n := by
  obtain ⟨c0, c1, _, _, _⟩ := rdA_cells h
  clear h
  go_enter Tryz.func81, Tryz.ntmps81
  go_wp2
  go_quiet (fail)
  go_wp2
  go_ret2
  exact ⟨rfl, _, rfl⟩
set_option maxHeartbeats 400000 in
theorem take_yes (b : Nat) (s : ByteArray) (p : Nat) (f r l lo hi x : Int) (w : World) (h : w.heap[b]? = some (rdA s p f r l)) (hs : s.size ≤ maxLen) (hp : p < s.size) (hx : Hid (x = (s[p].toNat : Int))) (h1 : lo ≤ x) (h2 : x ≤ hi) :
    Calls Tryz.prog 81 #[.pointer (some ⟨b, 0, none⟩), .int .i64 lo, .int .i64 hi] w fun e w' => e = .returned (.tuple #[.int .i64 x, .bool true]) ∧ ∃ n, w' = (w.drewN n).setCell ⟨b, 1, none⟩ (.int .i64 (p + 1)) := by
  unfold maxLen at hs
  obtain ⟨c0, c1, _, _, _⟩ := rdA_cells h
  obtain ⟨f1, _⟩ := rdA_frozen h
  have hpn : ((p : Int) == (s.size : Int)) = false := by simp; omega
  have hb8 : s[p].toNat < 256 := UInt8.toNat_lt _
  rw [hx.out] at h1 h2 ⊢
  clear h hx
  go_enter Tryz.func81, Tryz.ntmps81
  go_wp2
  go_quiet (fail)
  go_wp2
  go_quiet (fail)
  go_wp2
  go_ret2
  exact ⟨rfl, _, rfl⟩
set_option maxHeartbeats 400000 in
theorem take_no (b : Nat) (s : ByteArray) (p : Nat) (f r l lo hi x : Int) (w : World) (h : w.heap[b]? = some (rdA s p f r l)) (hp : p < s.size) (hx : Hid (x = (s[p].toNat : Int))) (h1 : x < lo ∨ hi < x) :
    Calls Tryz.prog 81 #[.pointer (some ⟨b, 0, none⟩), .int .i64 lo, .int .i64 hi] w fun e w' => e = .returned (.tuple #[.int .i64 0, .bool false]) ∧ ∃ n, w' = w.drewN n := by
  obtain ⟨c0, c1, _, _, _⟩ := rdA_cells h
  have hpn : ((p : Int) == (s.size : Int)) = false := by simp; omega
  have hb8 : s[p].toNat < 256 := UInt8.toNat_lt _
  rw [hx.out] at h1
  clear h hx
  by_cases h3 : (s[p].toNat : Int) < lo
  all_goals
    go_enter Tryz.func81, Tryz.ntmps81
    go_wp2
    go_quiet (fail)
    go_wp2
    go_quiet (fail)
    go_wp2
    go_ret2
    exact ⟨rfl, _, rfl⟩
theorem take_good (b : Nat) (s : ByteArray) (p L H : Nat) (f r l lo hi : Int) (w : World) (h : w.heap[b]? = some (rdA s p f r l)) (hs : s.size ≤ maxLen) (hL : lo = L) (hH : hi = H) (ht : M.tk s p L H = true) :
    Calls Tryz.prog 81 #[.pointer (some ⟨b, 0, none⟩), .int .i64 lo, .int .i64 hi] w fun e w' => e = .returned (.tuple #[.int .i64 (M.bt s p), .bool true]) ∧ w'.heap[b]? = some (rdA s ((p + 1 : Nat) : Int) f r l) ∧ w.grownBy w' (some b) := by
  obtain ⟨h1, h2, h3⟩ := M.tk_lt ht
  have e := M.bt_at s p h1
  refine (take_yes b s p f r l lo hi (M.bt s p) w h hs h1 (by show _ = _; rw [e]) (by omega) (by omega)).mono ?_
  rintro e w' ⟨rfl, n, rfl⟩
  exact ⟨rfl, rdA_set1 (w := w.drewN n) h _, grown_setCell (grown_drewN (grown_refl _ _) _) (Or.inl rfl) _⟩
theorem take_bad (b : Nat) (s : ByteArray) (p L H : Nat) (f r l lo hi : Int) (w : World) (h : w.heap[b]? = some (rdA s p f r l)) (hp : p ≤ s.size) (hL : lo = L) (hH : hi = H) (ht : M.tk s p L H = false) :
    Calls Tryz.prog 81 #[.pointer (some ⟨b, 0, none⟩), .int .i64 lo, .int .i64 hi] w fun e w' => e = .returned (.tuple #[.int .i64 0, .bool false]) ∧ w'.heap[b]? = some (rdA s p f r l) ∧ w.grownBy w' (some b) := by
  by_cases h1 : p < s.size
  · have e := M.bt_at s p h1
    have h2 : M.bt s p < L ∨ H < M.bt s p := by simp [M.tk] at ht; omega
    refine (take_no b s p f r l lo hi (M.bt s p) w h h1 (by show _ = _; rw [e]) (by omega)).mono ?_
    rintro e w' ⟨rfl, n, rfl⟩
    exact ⟨rfl, h, grown_drewN (grown_refl _ _) _⟩
  · obtain rfl : p = s.size := by omega
    refine (take_end b s f r l lo hi w h).mono ?_
    rintro e w' ⟨rfl, n, rfl⟩
    exact ⟨rfl, h, grown_drewN (grown_refl _ _) _⟩
theorem ofInt64 (a : Nat) (ha : a < 65536) : (BitVec.ofInt 64 (a : Int)).toNat = a := by
  rw [BitVec.ofInt_natCast, BitVec.toNat_ofNat]; exact Nat.mod_eq_of_lt (by omega)
theorem or_pair (a b : Nat) (ha : a < 256) (hb : b < 256) : bits .or .i64 ((a : Int) * 256) (b : Int) = 256 * (a : Int) + (b : Int) := by
  have hx : a * 256 ||| b = 256 * a + b := by
    have := Nat.shiftLeft_add_eq_or_of_lt (i := 8) (b := b) (by omega) a
    rw [Nat.shiftLeft_eq, show (2 : Nat) ^ 8 = 256 from rfl] at this
    omega
  have h1 : ((a : Int) * 256) = ((a * 256 : Nat) : Int) := by omega
  rw [h1]
  show IntKind.i64.wrap ((BitVec.ofInt 64 ((a * 256 : Nat) : Int) ||| BitVec.ofInt 64 (b : Int)).toNat : Int) = _
  rw [BitVec.toNat_or, ofInt64 (a * 256) (by omega), ofInt64 b (by omega), hx, IntWalk.i64_left, IntWalk.wrap64_in _ (by omega)]
  omega
set_option maxHeartbeats 400000 in
theorem target_short (b : Nat) (s : ByteArray) (p : Nat) (f r l : Int) (w : World) (h : w.heap[b]? = some (rdA s p f r l)) (_hs : s.size ≤ 9223372036854775807) (hp : p ≤ s.size) (h1 : s.size < p + 2) :
    Calls Tryz.prog 216 #[.pointer (some ⟨b, 0, none⟩)] w fun e w' => e = .returned (.bool false) ∧ ∃ n, w' = (w.drewN n).setCell ⟨b, 1, none⟩ (.int .i64 s.size) := by
  obtain ⟨c0, c1, _, _, _⟩ := rdA_cells h
  obtain ⟨f1, _⟩ := rdA_frozen h
  clear h
  go_enter Tryz.func216, Tryz.ntmps216
  go_wp2
  go_quiet (fail)
  go_wp2
  go_ret
  exact ⟨rfl, _, rfl⟩
set_option maxHeartbeats 400000 in
theorem target_yes (b : Nat) (s : ByteArray) (p : Nat) (f r l : Int) (w : World) (h : w.heap[b]? = some (rdA s p f r l)) (hs : s.size ≤ 9223372036854775807) (h1 : p + 2 ≤ s.size) (h2 : 256 * (s[p].toNat : Int) + (s[p + 1].toNat : Int) ≤ l) :
    Calls Tryz.prog 216 #[.pointer (some ⟨b, 0, none⟩)] w fun e w' => e = .returned (.bool true) ∧ ∃ n, w' = (w.drewN n).setCell ⟨b, 1, none⟩ (.int .i64 (p + 2)) := by
  obtain ⟨c0, c1, _, _, c4⟩ := rdA_cells h
  obtain ⟨f1, _⟩ := rdA_frozen h
  have hb8 : s[p].toNat < 256 := UInt8.toNat_lt _
  have hb9 : s[p + 1].toNat < 256 := UInt8.toNat_lt _
  have hp : p < s.size := by omega
  have hp1 : p + 1 < s.size := by omega
  have hw1 : IntKind.i64.wrap ((p : Int) + 1) = (p : Int) + 1 := by rw [IntWalk.i64_left, IntWalk.wrap64_in _ (by omega)]
  have hw2 : IntKind.i64.wrap (s[p].toNat : Int) = (s[p].toNat : Int) := by rw [IntWalk.i64_left, IntWalk.wrap64_in _ (by omega)]
  have hw3 : IntKind.i64.wrap ((s[p].toNat : Int) * 256) = (s[p].toNat : Int) * 256 := by rw [IntWalk.i64_left, IntWalk.wrap64_in _ (by omega)]
  have hw4 : IntKind.i64.wrap (s[p + 1].toNat : Int) = (s[p + 1].toNat : Int) := by rw [IntWalk.i64_left, IntWalk.wrap64_in _ (by omega)]
  have hor := or_pair s[p].toNat s[p + 1].toNat hb8 hb9
  have hi1 : ((p : Int) + 1).toNat = p + 1 := by omega
  have hi2 : (p : Int) + 1 < (s.size : Int) := by omega
  have hi3 : (0 : Int) ≤ (p : Int) + 1 := by omega
  clear h
  go_enter Tryz.func216, Tryz.ntmps216
  go_wp2
  go_quiet (fail)
  go_wp2
  go_quiet (fail)
  go_wp2
  go_ret
  exact ⟨rfl, _, rfl⟩
set_option maxHeartbeats 400000 in
theorem target_no (b : Nat) (s : ByteArray) (p : Nat) (f r l : Int) (w : World) (h : w.heap[b]? = some (rdA s p f r l)) (hs : s.size ≤ 9223372036854775807) (h1 : p + 2 ≤ s.size) (h2 : l < 256 * (s[p].toNat : Int) + (s[p + 1].toNat : Int)) :
    Calls Tryz.prog 216 #[.pointer (some ⟨b, 0, none⟩)] w fun e w' => e = .returned (.bool false) ∧ ∃ n, w' = w.drewN n := by
  obtain ⟨c0, c1, _, _, c4⟩ := rdA_cells h
  have hb8 : s[p].toNat < 256 := UInt8.toNat_lt _
  have hb9 : s[p + 1].toNat < 256 := UInt8.toNat_lt _
  have hp : p < s.size := by omega
  have hp1 : p + 1 < s.size := by omega
  have hw1 : IntKind.i64.wrap ((p : Int) + 1) = (p : Int) + 1 := by rw [IntWalk.i64_left, IntWalk.wrap64_in _ (by omega)]
  have hw2 : IntKind.i64.wrap (s[p].toNat : Int) = (s[p].toNat : Int) := by rw [IntWalk.i64_left, IntWalk.wrap64_in _ (by omega)]
  have hw3 : IntKind.i64.wrap ((s[p].toNat : Int) * 256) = (s[p].toNat : Int) * 256 := by rw [IntWalk.i64_left, IntWalk.wrap64_in _ (by omega)]
  have hw4 : IntKind.i64.wrap (s[p + 1].toNat : Int) = (s[p + 1].toNat : Int) := by rw [IntWalk.i64_left, IntWalk.wrap64_in _ (by omega)]
  have hor := or_pair s[p].toNat s[p + 1].toNat hb8 hb9
  have hi1 : ((p : Int) + 1).toNat = p + 1 := by omega
  have hi2 : (p : Int) + 1 < (s.size : Int) := by omega
  have hi3 : (0 : Int) ≤ (p : Int) + 1 := by omega
  clear h
  go_enter Tryz.func216, Tryz.ntmps216
  go_wp2
  go_quiet (fail)
  go_wp2
  go_quiet (fail)
  go_wp2
  go_ret
  exact ⟨rfl, _, World.drewN_drewN _ _ _⟩
theorem rtarget_any (b : Nat) (s : ByteArray) (p L : Nat) (f r l : Int) (w : World) (h : w.heap[b]? = some (rdA s p f r l)) (hs : s.size ≤ maxLen) (hp : p ≤ s.size) (hl : l = L) :
    Calls Tryz.prog 216 #[.pointer (some ⟨b, 0, none⟩)] w fun e w' => e = .returned (.bool (M.tgt s p L).2) ∧ w'.heap[b]? = some (rdA s ((M.tgt s p L).1 : Nat) f r l) ∧ w.grownBy w' (some b) := by
  have hs' : s.size ≤ 9223372036854775807 := by unfold maxLen at hs; omega
  by_cases h1 : s.size < p + 2
  · have e : M.tgt s p L = (s.size, false) := by unfold M.tgt; rw [if_pos h1]
    rw [e]
    refine (target_short b s p f r l w h hs' hp h1).mono ?_
    rintro e w' ⟨rfl, n, rfl⟩
    exact ⟨rfl, rdA_set1 (w := w.drewN n) h _, grown_setCell (grown_drewN (grown_refl _ _) _) (Or.inl rfl) _⟩
  · have e1 := M.bt_at s p (by omega)
    have e2 := M.bt_at s (p + 1) (by omega)
    by_cases h2 : L < 256 * M.bt s p + M.bt s (p + 1)
    · have e : M.tgt s p L = (p, false) := by unfold M.tgt; rw [if_neg h1, if_pos h2]
      rw [e]
      refine (target_no b s p f r l w h hs' (by omega) (by rw [← e1, ← e2]; omega)).mono ?_
      rintro e w' ⟨rfl, n, rfl⟩
      exact ⟨rfl, h, grown_drewN (grown_refl _ _) _⟩
    · have e : M.tgt s p L = (p + 2, true) := by unfold M.tgt; rw [if_neg h1, if_neg h2]
      rw [e]
      refine (target_yes b s p f r l w h hs' (by omega) (by rw [← e1, ← e2]; omega)).mono ?_
      rintro e w' ⟨rfl, n, rfl⟩
      exact ⟨rfl, rdA_set1 (w := w.drewN n) h _, grown_setCell (grown_drewN (grown_refl _ _) _) (Or.inl rfl) _⟩
set_option maxHeartbeats 400000 in
theorem highest_any (b : Nat) (s : ByteArray) (k R F : Nat) (p f r l kk : Int) (w : World) (h : w.heap[b]? = some (rdA s p f r l)) (hr : r = R) (hf : f = F) (h1 : 1 ≤ R) (h2 : 1 ≤ F) (h3 : R ≤ 8) (h4 : F ≤ 8) (hk : kk = k) :
    Calls Tryz.prog 217 #[.pointer (some ⟨b, 0, none⟩), .int .u8 kk] w fun e w' => e = .returned (.int .i64 (M.hiOf R F k)) ∧ w' = w := by
  obtain ⟨_, _, c2, c3, _⟩ := rdA_cells h
  clear h
  have hh : (M.hiOf R F k : Int) = if kk = 114 then r - 1 else if kk = 102 then f - 1 else if kk = 115 then 8 else if kk = 107 then 255 else 0 := by
    unfold M.hiOf
    repeat' split
    all_goals omega
  rw [hh]
  clear hh hk
  have b1 : 1 ≤ r := by omega
  have b2 : 1 ≤ f := by omega
  have b3 : r ≤ 8 := by omega
  have b4 : f ≤ 8 := by omega
  clear hr hf h1 h2 h3 h4
  by_cases e1 : kk = 114
  · subst e1
    go_enter Tryz.func217, Tryz.ntmps217
    go_wp2
    go_ret
    exact ⟨rfl, rfl⟩
  · have q1 : (kk == 114) = false := by simpa using e1
    rw [if_neg e1]; clear e1
    by_cases e2 : kk = 102
    · subst e2
      go_enter Tryz.func217, Tryz.ntmps217
      go_wp2
      go_ret
      exact ⟨rfl, rfl⟩
    · have q2 : (kk == 102) = false := by simpa using e2
      rw [if_neg e2]; clear e2
      by_cases e3 : kk = 115
      · subst e3
        go_enter Tryz.func217, Tryz.ntmps217
        go_wp2
        go_ret
        exact ⟨rfl, rfl⟩
      · have q3 : (kk == 115) = false := by simpa using e3
        rw [if_neg e3]; clear e3
        by_cases e4 : kk = 107
        · subst e4
          go_enter Tryz.func217, Tryz.ntmps217
          go_wp2
          go_ret
          exact ⟨rfl, rfl⟩
        · have q4 : (kk == 107) = false := by simpa using e4
          rw [if_neg e4]; clear e4
          go_enter Tryz.func217, Tryz.ntmps217
          go_wp2
          go_ret
          exact ⟨rfl, rfl⟩
set_option maxHeartbeats 400000 in
theorem operands_any (b : Nat) (s S : ByteArray) (p R F L : Nat) (f r l : Int) (w : World) (h : w.heap[b]? = some (rdA s p f r l)) (hs : s.size ≤ maxLen) (hS : S.size ≤ 3) (hp : p ≤ s.size)
    (hr : Hid (r = R)) (hf : Hid (f = F)) (hl : Hid (l = L)) (h1 : 1 ≤ R) (h2 : 1 ≤ F) (h3 : R ≤ 8) (h4 : F ≤ 8) :
    Calls Tryz.prog 197 #[.pointer (some ⟨b, 0, none⟩), .string S] w fun e w' => e = .returned (.bool (M.ops s R F L (M.letters S) p).2) ∧ w'.heap[b]? = some (rdA s ((M.ops s R F L (M.letters S) p).1 : Nat) f r l) ∧ w.grownBy w' (some b) := by
  have hs' : s.size ≤ 9223372036854775807 := by unfold maxLen at hs; omega
  have HS : Hid (s.size ≤ maxLen) := hs
  clear hs
  go_enter Tryz.func197, Tryz.ntmps197
  go_wp2
  go_loopw [10] (fun i wr => ∃ k q : Nat, k ≤ S.size ∧ q ≤ s.size ∧ i = .int .i64 k ∧ Hid (wr.heap[b]? = some (rdA s q f r l)) ∧ w.grownBy wr (some b) ∧ Hid (M.ops s R F L ((M.letters S).drop k) q = M.ops s R F L (M.letters S) p)) (fun i _ => S.size - (intOf i).toNat)
  case atStart => exact ⟨0, p, by omega, hp, rfl, h, grown_refl _ _, rfl⟩
  case round =>
    obtain ⟨k, q, hk, hq, rfl, hq1, hg, ho⟩ := hrel
    by_cases hlt : k < S.size
    · have hc := M.letters_drop S k hlt
      have ho2 : Hid (M.ops s R F L (M.letters S) p = if S[k].toNat = 116 then M.tgt s q L else if M.tk s q 0 (M.hiOf R F S[k].toNat) = true then M.ops s R F L ((M.letters S).drop (k + 1)) (q + 1) else (q, false)) := by
        show _ = _
        rw [← ho.out, hc]; rfl
      clear hc ho
      by_cases ht : S[k].toNat = 116
      · have ho3 : Hid (M.ops s R F L (M.letters S) p = M.tgt s q L) := by show _ = _; rw [ho2.out, if_pos ht]
        clear ho2
        have hb1 : ((S[k].toNat : Int) == 116) = true := by simp; omega
        clear ht
        go_wp2_with fail
        refine (rtarget_any b s q L f r l _ hq1.out HS.out hq hl.out).mono ?_
        rintro e w1 ⟨rfl, hh, hg1⟩
        go_wp2_with fail
        go_ret
        refine ⟨?_, ?_, grown_trans hg hg1⟩
        · rw [ho3.out]; rfl
        · rw [ho3.out]; exact hh
      · have hb1 : ((S[k].toNat : Int) == 116) = false := by simp; omega
        rw [if_neg ht] at ho2
        clear ht
        go_wp2_with fail
        refine (highest_any b s S[k].toNat R F q f r l _ _ hq1.out hr.out hf.out h1 h2 h3 h4 rfl).mono ?_
        rintro e w1 ⟨rfl, rfl⟩
        go_wp2_with fail
        by_cases htk : M.tk s q 0 (M.hiOf R F S[k].toNat) = true
        · have ho3 : Hid (M.ops s R F L (M.letters S) p = M.ops s R F L ((M.letters S).drop (k + 1)) (q + 1)) := by show _ = _; rw [ho2.out, if_pos htk]
          have hq2 := (M.tk_lt htk).1
          clear ho2
          refine (take_good b s q 0 _ f r l _ _ _ hq1.out HS.out rfl rfl htk).mono ?_
          rintro e w2 ⟨rfl, hh, hg2⟩
          have HH : Hid (w2.heap[b]? = some (rdA s ((q + 1 : Nat) : Int) f r l)) := hh
          clear hh htk
          go_wp2_with fail
          go_roundw
          case rel => exact ⟨k + 1, q + 1, by omega, by omega, by go_num, HH, grown_trans hg hg2, ho3.out.symm⟩
          case measure => simp [intOf]; omega
        · have htf : M.tk s q 0 (M.hiOf R F S[k].toNat) = false := by simpa using htk
          have ho3 : Hid (M.ops s R F L (M.letters S) p = (q, false)) := by show _ = _; rw [ho2.out, if_neg htk]
          clear ho2
          refine (take_bad b s q 0 _ f r l _ _ _ hq1.out hq rfl rfl htf).mono ?_
          rintro e w2 ⟨rfl, hh, hg2⟩
          have HH : Hid (w2.heap[b]? = some (rdA s q f r l)) := hh
          clear hh htk htf
          go_wp2_with fail
          go_ret
          refine ⟨?_, ?_, grown_trans hg hg2⟩
          · rw [ho3.out]; rfl
          · rw [ho3.out]; exact HH.out
    · obtain rfl : k = S.size := by omega
      have ho3 : Hid (M.ops s R F L (M.letters S) p = (q, true)) := by
        show _ = _
        rw [← ho.out, M.letters_end]; rfl
      clear ho
      go_wp2_with fail
      go_ret
      refine ⟨?_, ?_, hg⟩
      · rw [ho3.out]; rfl
      · rw [ho3.out]; exact hq1.out
def Tab (w : World) : Prop := 0 < w.heap.size ∧ ∀ op, op < 23 → w.cell? ⟨0, op, none⟩ = some (.string (M.KS op))
theorem Tab.kept {w w' : World} {b : Nat} (h : Tab w) (hg : w.grownBy w' (some b)) (hb : b ≠ 0) : Tab w' :=
  ⟨Nat.lt_of_lt_of_le h.1 hg.size, fun op ho => (World.cell?_of_block (a := ⟨0, op, none⟩) (hg.block 0 h.1 (by intro e; injection e; omega))).trans (h.2 op ho)⟩
theorem Tab.alloc {w : World} (h : Tab w) (o : Obj) : Tab (w.alloc o) := h.kept (b := 1) (World.grownBy_alloc _ _ _) (by omega)
def Instr4 (s : ByteArray) (p : Nat) (e : Ending) (ok : Bool) : Prop := ∃ a0 a1 a2 a3 : Int, e = .returned (.tuple #[.agg #[.int .u8 a0, .int .u8 a1, .int .u8 a2, .int .u8 a3], .bool ok]) ∧ (ok = true → a0 = (M.bt s p : Int) ∧ a1 = (M.bt s (p + 1) : Int) ∧ a2 = (M.bt s (p + 2) : Int) ∧ a3 = (M.bt s (p + 3) : Int))
theorem rdA_alloc {w : World} {b : Nat} {s : ByteArray} {p f r l : Int} (h : w.heap[b]? = some (rdA s p f r l)) (o : Obj) : (w.alloc o).heap[b]? = some (rdA s p f r l) := (Below.heap_alloc _ _ _ (heap_lt h)).trans h
theorem four_cells {w w1 : World} {b k : Nat} {a0 a1 a2 a3 : Value} {T : TypeId} (h : w.heap[k]? = some (.cells #[a0, a1, a2, a3] T (0, 0))) (hg : w.grownBy w1 (some b)) (hk : k ≠ b) :
    k < w1.heap.size ∧ w1.cell? ⟨k, 0, none⟩ = some a0 ∧ w1.cell? ⟨k, 1, none⟩ = some a1 ∧ w1.cell? ⟨k, 2, none⟩ = some a2 ∧ w1.cell? ⟨k, 3, none⟩ = some a3 ∧
    w1.frozen? ⟨k, 0, none⟩ = false ∧ w1.frozen? ⟨k, 1, none⟩ = false ∧ w1.frozen? ⟨k, 2, none⟩ = false ∧ w1.frozen? ⟨k, 3, none⟩ = false := by
  have h1 := grown_heap hg h (by intro e; injection e; omega)
  exact ⟨heap_lt h1, by simp [World.cell?, World.frozen?, h1]⟩
set_option maxHeartbeats 400000 in
theorem instruction_no1 (b : Nat) (s : ByteArray) (p : Nat) (f r l : Int) (w : World) (h : w.heap[b]? = some (rdA s p f r l)) (hp : p ≤ s.size) (ht : M.tk s p 0 22 = false) :
    Calls Tryz.prog 147 #[.pointer (some ⟨b, 0, none⟩)] w fun e w' => Instr4 s p e false ∧ w'.heap[b]? = some (rdA s p f r l) ∧ w.grownBy w' (some b) := by
  have hb := heap_lt h
  obtain ⟨c0, c1, _, _, _⟩ := rdA_cells h
  have H : Hid (w.heap[b]? = some (rdA s p f r l)) := h
  clear h
  go_enter Tryz.func147, Tryz.ntmps147
  go_wp2_with fail
  refine (take_bad b s p 0 22 f r l _ _ _ (rdA_alloc H.out _) hp rfl rfl ht).mono ?_
  rintro e w1 ⟨rfl, hh, hg⟩
  obtain ⟨hz, d0, d1, d2, d3, e0, e1, e2, e3⟩ := four_cells (k := w.heap.size) (heap_alloc_new w _) hg (by omega)
  have HH : Hid (w1.heap[b]? = some (rdA s p f r l)) := hh
  clear hh
  go_wp2_with fail
  refine bodyPost_ret (v := .tuple #[.agg #[.int .u8 0, .int .u8 0, .int .u8 0, .int .u8 0], .bool false]) (by simp [results, Tryz.results147, go_sem, *]) rfl ⟨⟨0, 0, 0, 0, rfl, fun h => by cases h⟩, ?_, ?_⟩
  · repeat (rw [Below.heap_setCell _ _ _ _ (by simp; omega)])
    exact HH.out
  · repeat (refine grown_setCell ?_ (Or.inr (by simp)) _)
    exact grown_trans (World.grownBy_alloc _ _ _) hg
set_option maxHeartbeats 400000 in
theorem instruction_no2 (b : Nat) (s : ByteArray) (p R F L : Nat) (f r l : Int) (w : World) (h : w.heap[b]? = some (rdA s p f r l)) (hs : s.size ≤ maxLen) (hb0 : b ≠ 0) (hT : Tab w) (hr : Hid (r = R)) (hf : Hid (f = F)) (hl : Hid (l = L)) (h1 : 1 ≤ R) (h2 : 1 ≤ F) (h3 : R ≤ 8) (h4 : F ≤ 8)
    (ht : M.tk s p 0 22 = true) (ho : Hid ((M.opn s (p + 1) (M.bt s p) R F L).2 = false)) :
    Calls Tryz.prog 147 #[.pointer (some ⟨b, 0, none⟩)] w fun e w' => Instr4 s p e false ∧ w'.heap[b]? = some (rdA s ((M.opn s (p + 1) (M.bt s p) R F L).1 : Nat) f r l) ∧ w.grownBy w' (some b) := by
  have hb := heap_lt h
  obtain ⟨c0, c1, _, _, _⟩ := rdA_cells h
  have H : Hid (w.heap[b]? = some (rdA s p f r l)) := h
  have HS : Hid (s.size ≤ maxLen) := hs
  obtain ⟨hp, _, hop⟩ := M.tk_lt ht
  have HO : Hid (M.ops s R F L (M.letters (M.KS (M.bt s p))) (p + 1) = M.opn s (p + 1) (M.bt s p) R F L) := by
    show _ = _
    rw [(M.KS_facts _ (by omega)).1, M.ops_opn _ _ _ _ _ _ (by omega)]
  have HK : Hid ((M.KS (M.bt s p)).size ≤ 3) := by show _ ≤ _; rw [(M.KS_facts _ (by omega)).2]; exact Nat.le_refl _
  have HT : Hid (M.tk s p 0 22 = true) := ht
  have HTab : Hid (Tab w) := hT
  clear h hs ht hT
  go_enter Tryz.func147, Tryz.ntmps147
  go_wp2_with fail
  refine (take_good b s p 0 22 f r l _ _ _ (rdA_alloc H.out _) HS.out rfl rfl HT.out).mono ?_
  rintro e w1 ⟨rfl, hh, hg⟩
  have hT1 := (HTab.out.alloc _).kept hg hb0
  have hc := hT1.2 (M.bt s p) (by omega)
  have hz1 := hT1.1
  have HH : Hid (w1.heap[b]? = some (rdA s ((p + 1 : Nat) : Int) f r l)) := hh
  clear hh
  generalize hq : M.bt s p = q at *
  have HQ : Hid (M.bt s p = q) := hq
  clear hq hT1
  go_wp2_with fail
  refine (operands_any b s (M.KS q) (p + 1) R F L f r l _ HH.out HS.out HK.out (by omega) hr hf hl h1 h2 h3 h4).mono ?_
  rintro e w2 ⟨rfl, hh, hg2⟩
  rw [HO.out] at hh ⊢
  rw [ho.out]
  obtain ⟨hz, d0, d1, d2, d3, e0, e1, e2, e3⟩ := four_cells (k := w.heap.size) (heap_alloc_new w _) (grown_trans hg hg2) (by omega)
  have HH2 : Hid (w2.heap[b]? = some (rdA s ((M.opn s (p + 1) q R F L).1 : Nat) f r l)) := hh
  clear hh
  go_wp2_with fail
  refine bodyPost_ret (v := .tuple #[.agg #[.int .u8 0, .int .u8 0, .int .u8 0, .int .u8 0], .bool false]) (by simp [results, Tryz.results147, go_sem, *]) rfl ⟨⟨0, 0, 0, 0, rfl, fun h => by cases h⟩, ?_, ?_⟩
  · repeat (rw [Below.heap_setCell _ _ _ _ (by simp; omega)])
    rw [HQ.out]; exact HH2.out
  · repeat (refine grown_setCell ?_ (Or.inr (by simp)) _)
    exact grown_trans (grown_trans (World.grownBy_alloc _ _ _) hg) hg2
set_option maxHeartbeats 400000 in
theorem instruction_yes (b : Nat) (s : ByteArray) (p R F L : Nat) (f r l : Int) (w : World) (h : w.heap[b]? = some (rdA s p f r l)) (hs : s.size ≤ maxLen) (hb0 : b ≠ 0) (hT : Tab w) (hr : Hid (r = R)) (hf : Hid (f = F)) (hl : Hid (l = L)) (h1 : 1 ≤ R) (h2 : 1 ≤ F) (h3 : R ≤ 8) (h4 : F ≤ 8)
    (ht : M.tk s p 0 22 = true) (ho : Hid ((M.opn s (p + 1) (M.bt s p) R F L).2 = true)) :
    Calls Tryz.prog 147 #[.pointer (some ⟨b, 0, none⟩)] w fun e w' => Instr4 s p e true ∧ w'.heap[b]? = some (rdA s ((p + 4 : Nat) : Int) f r l) ∧ w.grownBy w' (some b) := by
  have hb := heap_lt h
  obtain ⟨c0, c1, _, _, _⟩ := rdA_cells h
  have H : Hid (w.heap[b]? = some (rdA s p f r l)) := h
  have HS : Hid (s.size ≤ maxLen) := hs
  obtain ⟨hp, _, hop⟩ := M.tk_lt ht
  have HO : Hid (M.ops s R F L (M.letters (M.KS (M.bt s p))) (p + 1) = M.opn s (p + 1) (M.bt s p) R F L) := by
    show _ = _
    rw [(M.KS_facts _ (by omega)).1, M.ops_opn _ _ _ _ _ _ (by omega)]
  have HK : Hid ((M.KS (M.bt s p)).size ≤ 3) := by show _ ≤ _; rw [(M.KS_facts _ (by omega)).2]; exact Nat.le_refl _
  have HT : Hid (M.tk s p 0 22 = true) := ht
  have HTab : Hid (Tab w) := hT
  clear h hs ht hT
  go_enter Tryz.func147, Tryz.ntmps147
  go_wp2_with fail
  refine (take_good b s p 0 22 f r l _ _ _ (rdA_alloc H.out _) HS.out rfl rfl HT.out).mono ?_
  rintro e w1 ⟨rfl, hh, hg⟩
  have hT1 := (HTab.out.alloc _).kept hg hb0
  have hc := hT1.2 (M.bt s p) (by omega)
  have hz1 := hT1.1
  have HH : Hid (w1.heap[b]? = some (rdA s ((p + 1 : Nat) : Int) f r l)) := hh
  clear hh
  generalize hq : M.bt s p = q at *
  have HQ : Hid (M.bt s p = q) := hq
  clear hq hT1
  go_wp2_with fail
  refine (operands_any b s (M.KS q) (p + 1) R F L f r l _ HH.out HS.out HK.out (by omega) hr hf hl h1 h2 h3 h4).mono ?_
  rintro e w2 ⟨rfl, hh, hg2⟩
  rw [HO.out] at hh ⊢
  rw [ho.out]
  rw [M.opn_yes ho.out] at hh
  have hle := (M.opn_le (s := s) (p := p + 1) (op := q) (r := R) (f := F) (l := L) (by omega)).2
  rw [M.opn_yes ho.out] at hle
  obtain ⟨hz, d0, d1, d2, d3, e0, e1, e2, e3⟩ := four_cells (k := w.heap.size) (heap_alloc_new w _) (grown_trans hg hg2) (by omega)
  have HH2 : Hid (w2.heap[b]? = some (rdA s ((p + 4 : Nat) : Int) f r l)) := hh
  obtain ⟨x0, x1, _, _, _⟩ := rdA_cells hh
  clear hh
  go_wp2_with fail
  go_quiet (fail)
  go_wp2_with fail
  have h4 : (s.extract p (p + 1 + 3)).size = 4 := by simp; omega
  have HX : Hid (M.bt (s.extract p (p + 1 + 3)) 0 = M.bt s p ∧ M.bt (s.extract p (p + 1 + 3)) 1 = M.bt s (p + 1) ∧ M.bt (s.extract p (p + 1 + 3)) 2 = M.bt s (p + 2) ∧ M.bt (s.extract p (p + 1 + 3)) 3 = M.bt s (p + 3)) :=
    ⟨M.bt_extract s p _ 0 (by omega) (by omega), M.bt_extract s p _ 1 (by omega) (by omega), M.bt_extract s p _ 2 (by omega) (by omega), M.bt_extract s p _ 3 (by omega) (by omega)⟩
  generalize s.extract p (p + 1 + 3) = x at *
  go_region
  go_wp2_with fail
  refine bodyPost_ret (v := .tuple #[.agg #[.int .u8 (x[0].toNat : Int), .int .u8 (x[1].toNat : Int), .int .u8 (x[2].toNat : Int), .int .u8 (x[3].toNat : Int)], .bool true]) (by simp [results, Tryz.results147, go_sem, *]) rfl ⟨⟨_, _, _, _, rfl, fun _ => ?_⟩, ?_, ?_⟩
  · obtain ⟨k0, k1, k2, k3⟩ := HX.out
    rw [M.bt_at x 0 (by omega)] at k0
    rw [M.bt_at x 1 (by omega)] at k1
    rw [M.bt_at x 2 (by omega)] at k2
    rw [M.bt_at x 3 (by omega)] at k3
    rw [k0, k1, k2, k3]
    exact ⟨rfl, rfl, rfl, rfl⟩
  · repeat (rw [Below.heap_setCell _ _ _ _ (by simp; omega)])
    exact HH2.out
  · repeat (refine grown_setCell ?_ (Or.inr (by simp)) _)
    exact grown_drewN (grown_trans (grown_trans (World.grownBy_alloc _ _ _) hg) hg2) _
theorem instruction_any (b : Nat) (s : ByteArray) (p R F L : Nat) (f r l : Int) (w : World) (h : w.heap[b]? = some (rdA s p f r l)) (hs : s.size ≤ maxLen) (hp : p ≤ s.size) (hb0 : b ≠ 0) (hT : Tab w) (hr : Hid (r = R)) (hf : Hid (f = F)) (hl : Hid (l = L)) (h1 : 1 ≤ R) (h2 : 1 ≤ F) (h3 : R ≤ 8) (h4 : F ≤ 8) :
    Calls Tryz.prog 147 #[.pointer (some ⟨b, 0, none⟩)] w fun e w' => Instr4 s p e (M.ins s p R F L).2 ∧ w'.heap[b]? = some (rdA s ((M.ins s p R F L).1 : Nat) f r l) ∧ w.grownBy w' (some b) := by
  by_cases ht : M.tk s p 0 22 = true
  · have e : M.ins s p R F L = M.opn s (p + 1) (M.bt s p) R F L := by unfold M.ins; rw [if_pos ht]
    rw [e]
    by_cases ho : (M.opn s (p + 1) (M.bt s p) R F L).2 = true
    · rw [ho, M.opn_yes ho]
      exact instruction_yes b s p R F L f r l w h hs hb0 hT hr hf hl h1 h2 h3 h4 ht ho
    · have ho' : (M.opn s (p + 1) (M.bt s p) R F L).2 = false := by simpa using ho
      rw [ho']
      exact instruction_no2 b s p R F L f r l w h hs hb0 hT hr hf hl h1 h2 h3 h4 ht ho'
  · have e : M.ins s p R F L = (p, false) := by unfold M.ins; rw [if_neg ht]
    rw [e]
    exact instruction_no1 b s p f r l w h hp (by simpa using ht)
end Go.Proofs.YtnjiinbhbjpfkaaGreatDoor
namespace Go.Proofs.YtnjiinbhbjpfkaaGreatDoor
open Go.ChangeShapes Go.WideShapes Go.ChangeAt Go.WideMaps Go.WideElems Go.RowKit Go.Joins
theorem own : ownKnob Tryz.prog.godebug = none := by kernel_rfl
theorem gOpn : Tryz.prog.globalNamed (Rows.chainRow.named.headD "") = some 0 := by kernel_rfl
theorem tOpn : (Tryz.prog.globals[0]?).map (·.type) = some 283 := by kernel_rfl
theorem cells9 : Tryz.prog.cellsOf 9 = 1 := by kernel_rfl
theorem laid_is : (Rows.laid_turnstile_code_operandKinds : DataW Unit) = .agg ((List.range 23).map fun i => .lit (.string (M.KS i).data.toList)) := by rfl
theorem tab_of_laid {W : World} (h : laidMetH Tryz.prog Rows.chainRow.laid W) : Tab W := by
  rw [MakeChecks.laidMetH_plain _ _ _ (by kernel_rfl)] at h
  obtain ⟨ps, ⟨g0, t0, cs0, f0, p0, q0, hg0, ht0, hv0, hd0, _, _⟩, _, _⟩ := h
  obtain rfl : 0 = g0 := Option.some.inj (gOpn.symm.trans hg0)
  obtain rfl : 283 = t0 := Option.some.inj (tOpn.symm.trans ht0)
  obtain ⟨xs, m1, rfl, hx1, hlen, hn3, hel⟩ := DataW.trod_array Tryz.underlying283 hd0
  simp only [Prod.mk.injEq] at hx1
  have hx := hx1.1
  have key : ∀ op, op < 23 → W.cell? ⟨0, op, none⟩ = some (.string (M.KS op)) := by
    intro op ho
    have h1 := hel op ho
    have hxo : xs[op]? = some (xs[op]'(by omega)) := List.getElem?_eq_getElem (by omega)
    rw [hxo, cells9] at h1
    obtain ⟨S, e1, e2, _⟩ := DataW.trod_string Tryz.underlying9 h1
    have hS : S = M.KS op := by
      have e3 : (.agg ((List.range 23).map fun i => .lit (.string (M.KS i).data.toList)) : DataW Unit) = .agg (xs.map (·.1)) := laid_is.symm.trans hx
      simp only [DataW.agg.injEq] at e3
      have e4 := congrArg (fun l => l[op]?) e3
      simp only [List.getElem?_map, List.getElem?_range ho, hxo, Option.map_some, Option.some.injEq] at e4
      rw [e2] at e4
      simp only [DataW.lit.injEq, Lit.string.injEq] at e4
      have e5 : (M.KS op).data = S.data := Array.toList_inj.1 e4
      cases S; cases hk : M.KS op
      rw [hk] at e5
      exact congrArg ByteArray.mk e5.symm
    have hc := World.var?_cell hg0 hv0 op
    rw [hc, ← hS]
    rw [Nat.mul_one] at e1
    have e6 := congrArg (fun l => l[0]?) e1
    simpa [List.getElem?_take, List.getElem?_drop] using e6
  refine ⟨?_, key⟩
  have := key 0 (by omega)
  exact World.block_lt_of_cell? W ⟨0, 0, none⟩ this
theorem Tryz.laidOut : laidOutB Tryz.prog = true := by kernel_rfl
def Only (F : Nat → Prop) (w w' : World) : Prop := w'.os = w.os ∧ w'.tape = w.tape ∧ w'.output = w.output ∧ w.heap.size ≤ w'.heap.size ∧ ∀ k, k < w.heap.size → ¬ F k → w'.heap[k]? = w.heap[k]?
theorem only_refl (S : Nat → Prop) (w : World) : Only S w w := ⟨rfl, rfl, rfl, Nat.le_refl _, fun _ _ _ => rfl⟩
theorem Only.size {S : Nat → Prop} {w w' : World} (h : Only S w w') : w.heap.size ≤ w'.heap.size := h.2.2.2.1
theorem Only.block {S : Nat → Prop} {w w' : World} (h : Only S w w') {k : Nat} {o : Obj} (hk : w.heap[k]? = some o) (hS : ¬ S k) : w'.heap[k]? = some o := (h.2.2.2.2 k (heap_lt hk) hS).trans hk
theorem Only.same {S : Nat → Prop} {w w' : World} (h : Only S w w') {k : Nat} (hk : k < w.heap.size) (hS : ¬ S k) : w'.heap[k]? = w.heap[k]? := h.2.2.2.2 k hk hS
theorem Only.cell {S : Nat → Prop} {w w' : World} (h : Only S w w') {k o : Nat} (hk : k < w.heap.size) (hS : ¬ S k) : w'.cell? ⟨k, o, none⟩ = w.cell? ⟨k, o, none⟩ := World.cell?_of_block (a := ⟨k, o, none⟩) (h.same hk hS)
theorem Only.frozen {S : Nat → Prop} {w w' : World} (h : Only S w w') {k o : Nat} (hk : k < w.heap.size) (hS : ¬ S k) : w'.frozen? ⟨k, o, none⟩ = w.frozen? ⟨k, o, none⟩ := World.frozen?_of_block (a := ⟨k, o, none⟩) (h.same hk hS)
theorem Only.trans {S S1 : Nat → Prop} {w w1 w2 : World} (h : Only S w w1) (k : Only S1 w1 w2) (hS : ∀ b, S1 b → b < w.heap.size → S b) : Only S w w2 :=
  ⟨k.1.trans h.1, k.2.1.trans h.2.1, k.2.2.1.trans h.2.2.1, Nat.le_trans h.size k.size, fun b hb hn => (k.2.2.2.2 b (Nat.lt_of_lt_of_le hb h.size) (fun hs => hn (hS b hs hb))).trans (h.2.2.2.2 b hb hn)⟩
theorem Only.mono {S S1 : Nat → Prop} {w w1 : World} (h : Only S w w1) (hS : ∀ b, S b → b < w.heap.size → S1 b) : Only S1 w w1 :=
  ⟨h.1, h.2.1, h.2.2.1, h.size, fun b hb hn => h.2.2.2.2 b hb (fun hs => hn (hS b hs hb))⟩
theorem only_grown {S : Nat → Prop} {w w1 : World} {b : Nat} (h : w.grownBy w1 (some b)) (hb : S b) : Only S w w1 :=
  ⟨h.os, h.tape, h.output, h.size, fun k hk hn => h.block k hk (by intro e; injection e with e; exact hn (e ▸ hb))⟩
theorem only_none {S : Nat → Prop} {w w1 : World} (h : w.grownBy w1 none) : Only S w w1 := ⟨h.os, h.tape, h.output, h.size, fun k hk _ => h.block k hk (by intro e; cases e)⟩
theorem Only.then {S : Nat → Prop} {w w1 w2 : World} {b : Nat} (h : Only S w w1) (k : w1.grownBy w2 (some b)) (hb : S b ∨ w.heap.size ≤ b) : Only S w w2 :=
  h.trans (only_grown (S := fun x => x = b) k rfl) (fun x hx hl => hb.elim (fun hb => hx ▸ hb) (fun hb => absurd hl (by omega)))
theorem Only.then0 {S : Nat → Prop} {w w1 w2 : World} (h : Only S w w1) (k : w1.grownBy w2 none) : Only S w w2 := h.trans (only_none (S := S) k) (fun _ hx _ => hx)
theorem only_drew {S : Nat → Prop} {w w1 : World} (h : Only S w w1) : Only S w w1.drew := h
theorem only_drewN {S : Nat → Prop} {w w1 : World} (h : Only S w w1) (n : Nat) : Only S w (w1.drewN n) := h
theorem only_alloc {S : Nat → Prop} {w w1 : World} (h : Only S w w1) (o : Obj) : Only S w (w1.alloc o) := h.then0 (World.grownBy_alloc _ _ _)
theorem only_setCell {S : Nat → Prop} {w w1 : World} (h : Only S w w1) {a : Addr} (ha : S a.block ∨ w.heap.size ≤ a.block) (v : Value) : Only S w (w1.setCell a v) :=
  h.then (b := a.block) (grown_setCell (grown_refl _ _) (Or.inl rfl) v) ha
theorem hid {p : Prop} (h : p) : Hid p := h
def upd (P : Nat → Value) (j : Nat) (v : Value) : Nat → Value := fun i => if i = j then v else P i
theorem upd_at (P : Nat → Value) (j : Nat) (v : Value) : upd P j v j = v := if_pos rfl
theorem upd_off (P : Nat → Value) (j i : Nat) (v : Value) (h : i ≠ j) : upd P j v i = P i := if_neg h
theorem Full.upd {w : World} {g n m : Nat} {T : TypeId} {P : Nat → Value} (h : Full w g T n m P) (j : Nat) (v : Value) : Full (w.setCell ⟨g, j, none⟩ v) g T n m (upd P j v) := by
  obtain ⟨cur, h, hc, hj⟩ := h
  refine ⟨cur.setIfInBounds j v, by simp [World.setCell, Array.getElem?_modify, h], by simpa using hc, fun i hi => ?_⟩
  rw [Array.getElem?_setIfInBounds]
  by_cases e : j = i
  · subst e
    have := hj j hi
    rw [upd_at, if_pos rfl, if_pos (Array.getElem?_eq_some_iff.1 this).1]
  · rw [if_neg e, upd_off _ _ _ _ (fun h => e h.symm)]; exact hj i hi
theorem Full.off {w : World} {g n m x o : Nat} {T : TypeId} {P : Nat → Value} {v : Value} (h : Full w g T n m P) (hx : g ≠ x) : Full (w.setCell ⟨x, o, none⟩ v) g T n m P := h.block (Below.heap_setCell _ _ _ _ hx)
theorem Full.cells {w : World} {g n m : Nat} {T : TypeId} {P : Nat → Value} (h : Full w g T n m P) (j : Nat) (hj : j < m) : w.cell? ⟨g, j, none⟩ = some (P j) ∧ w.frozen? ⟨g, j, none⟩ = false := by
  refine ⟨h.cell j hj, ?_⟩
  obtain ⟨cur, h, _⟩ := h
  simp [World.frozen?, h]
theorem Full.ne {w : World} {g n m g' n' m' : Nat} {T T' : TypeId} {P P' : Nat → Value} (h : Full w g T n m P) (h' : Full w g' T' n' m' P') (hT : T ≠ T') : g ≠ g' := by
  rintro rfl
  obtain ⟨cur, h, _⟩ := h
  obtain ⟨cur', h', _⟩ := h'
  rw [h] at h'
  injection h' with h'
  injection h' with _ h' _
  exact hT h'
theorem Full.congr {w : World} {g n m : Nat} {T : TypeId} {P Q : Nat → Value} (h : Full w g T n m P) (hP : ∀ j, j < m → P j = Q j) : Full w g T n m Q := by
  obtain ⟨cur, h1, h2, h3⟩ := h
  exact ⟨cur, h1, h2, fun j hj => (h3 j hj).trans (by rw [hP j hj])⟩
end Go.Proofs.YtnjiinbhbjpfkaaGreatDoor
