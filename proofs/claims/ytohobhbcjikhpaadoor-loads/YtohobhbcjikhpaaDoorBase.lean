/-
  Small facts on worlds: a call that writes into one block and makes new ones ('grownBy'), and the readers' blocks.
-/
import Derived.Test.YtohobhbcjikhpaaDoorRows
import Derived.WalkKit
import Derived.WalkSpells
import Derived.WalkLawsBesides
import Derived.BigQuiet
import Derived.Deep.QuietTactic
import Derived.Test.YtohobhbcjikhpaaDoorMath
namespace Go.Proofs.YtohobhbcjikhpaaDoor
open Go.RowKit

/-- The block of the program's reader. -/
def rdA (s : ByteArray) (p f r l : Int) : Obj := .cells #[.string s, .int .i64 p, .int .i64 f, .int .i64 r, .int .i64 l] 74 (0, 0)
/-- The block of the document's reader. -/
def rdB (s : ByteArray) (p : Int) (bad : Bool) : Obj := .cells #[.string s, .int .i64 p, .bool bad] 96 (0, 0)

theorem grown_refl (w : World) (row : Option Nat) : w.grownBy w row := ⟨rfl, rfl, rfl, Nat.le_refl _, fun _ _ _ => rfl⟩
theorem grown_trans {w w1 w2 : World} {row : Option Nat} (h : w.grownBy w1 row) (k : w1.grownBy w2 row) : w.grownBy w2 row :=
  ⟨k.os.trans h.os, k.tape.trans h.tape, k.output.trans h.output, Nat.le_trans h.size k.size, fun i hi hr => (k.block i (Nat.lt_of_lt_of_le hi h.size) hr).trans (h.block i hi hr)⟩
theorem grown_drewN {w w1 : World} {row : Option Nat} (h : w.grownBy w1 row) (n : Nat) : w.grownBy (w1.drewN n) row := ⟨h.os, h.tape, h.output, h.size, h.block⟩
theorem grown_drew {w w1 : World} {row : Option Nat} (h : w.grownBy w1 row) : w.grownBy w1.drew row := ⟨h.os, h.tape, h.output, h.size, h.block⟩
theorem grown_alloc {w w1 : World} {row : Option Nat} (h : w.grownBy w1 row) (o : Obj) : w.grownBy (w1.alloc o) row := grown_trans h (World.grownBy_alloc _ _ _)
/-- A store into the row itself, or into a block that was not there. -/
theorem grown_setCell {w w1 : World} {row : Option Nat} (h : w.grownBy w1 row) {a : Addr} (ha : some a.block = row ∨ w.heap.size ≤ a.block) (v : Value) : w.grownBy (w1.setCell a v) row := by
  refine ⟨h.os, h.tape, h.output, Nat.le_trans h.size (by simp [World.setCell]), fun i hi hr => ?_⟩
  rw [Below.heap_setCell]
  · exact h.block i hi hr
  · rintro rfl
    rcases ha with ha | ha
    · exact hr ha
    · omega

theorem heap_drewN (w : World) (n : Nat) : (w.drewN n).heap = w.heap := rfl

section
variable {w : World} {b : Nat} {s : ByteArray} {p f r l : Int}
theorem rdA_cells (h : w.heap[b]? = some (rdA s p f r l)) : w.cell? ⟨b, 0, none⟩ = some (.string s) ∧ w.cell? ⟨b, 1, none⟩ = some (.int .i64 p) ∧ w.cell? ⟨b, 2, none⟩ = some (.int .i64 f) ∧ w.cell? ⟨b, 3, none⟩ = some (.int .i64 r) ∧ w.cell? ⟨b, 4, none⟩ = some (.int .i64 l) := by
  simp [World.cell?, h, rdA]
theorem rdA_frozen (h : w.heap[b]? = some (rdA s p f r l)) : w.frozen? ⟨b, 1, none⟩ = false ∧ w.frozen? ⟨b, 2, none⟩ = false ∧ w.frozen? ⟨b, 3, none⟩ = false ∧ w.frozen? ⟨b, 4, none⟩ = false := by
  simp [World.frozen?, h, rdA]
theorem rdA_set1 (h : w.heap[b]? = some (rdA s p f r l)) (v : Int) : (w.setCell ⟨b, 1, none⟩ (.int .i64 v)).heap[b]? = some (rdA s v f r l) := by
  simp [World.setCell, Array.getElem?_modify, h, rdA]
theorem rdA_set2 (h : w.heap[b]? = some (rdA s p f r l)) (v : Int) : (w.setCell ⟨b, 2, none⟩ (.int .i64 v)).heap[b]? = some (rdA s p v r l) := by
  simp [World.setCell, Array.getElem?_modify, h, rdA]
theorem rdA_set3 (h : w.heap[b]? = some (rdA s p f r l)) (v : Int) : (w.setCell ⟨b, 3, none⟩ (.int .i64 v)).heap[b]? = some (rdA s p f v l) := by
  simp [World.setCell, Array.getElem?_modify, h, rdA]
theorem rdA_set4 (h : w.heap[b]? = some (rdA s p f r l)) (v : Int) : (w.setCell ⟨b, 4, none⟩ (.int .i64 v)).heap[b]? = some (rdA s p f r v) := by
  simp [World.setCell, Array.getElem?_modify, h, rdA]
end

section
variable {w : World} {b : Nat} {s : ByteArray} {p : Int} {bad : Bool}
theorem rdB_cells (h : w.heap[b]? = some (rdB s p bad)) : w.cell? ⟨b, 0, none⟩ = some (.string s) ∧ w.cell? ⟨b, 1, none⟩ = some (.int .i64 p) ∧ w.cell? ⟨b, 2, none⟩ = some (.bool bad) := by
  simp [World.cell?, h, rdB]
theorem rdB_frozen (h : w.heap[b]? = some (rdB s p bad)) : w.frozen? ⟨b, 1, none⟩ = false ∧ w.frozen? ⟨b, 2, none⟩ = false := by
  simp [World.frozen?, h, rdB]
theorem rdB_set1 (h : w.heap[b]? = some (rdB s p bad)) (v : Int) : (w.setCell ⟨b, 1, none⟩ (.int .i64 v)).heap[b]? = some (rdB s v bad) := by
  simp [World.setCell, Array.getElem?_modify, h, rdB]
theorem rdB_set2 (h : w.heap[b]? = some (rdB s p bad)) (v : Bool) : (w.setCell ⟨b, 2, none⟩ (.bool v)).heap[b]? = some (rdB s p v) := by
  simp [World.setCell, Array.getElem?_modify, h, rdB]
end

theorem heap_lt {w : World} {b : Nat} {o : Obj} (h : w.heap[b]? = some o) : b < w.heap.size := (Array.getElem?_eq_some_iff.1 h).1

/-- What a block that is none of the row's holds behind. -/
theorem grown_heap {w w1 : World} {row : Option Nat} (h : w.grownBy w1 row) {k : Nat} {o : Obj} (hk : w.heap[k]? = some o) (hr : some k ≠ row) : w1.heap[k]? = some o :=
  (h.block k (heap_lt hk) hr).trans hk

theorem grown_of_below {w w' : World} {b : Nat} (h : Below w.heap.size w w') : w.grownBy w' (some b) := ⟨h.os, h.tape, h.output, h.size, fun k hk _ => h.block k hk⟩

end Go.Proofs.YtohobhbcjikhpaaDoor
