/-
  What the laws on programs of one function ask of Load, Turn and State: stated as a property of a predicate 'Mach' that tells what lies in the memory of a machine.
-/
import Derived.Test.YtbmjlbcaplgfmaaGreatDoorPartG
import Derived.Test.YtbmjlbcaplgfmaaGreatDoorPartA
import Derived.Test.YtbmjlbcaplgfmaaGreatDoorPartE
import Derived.Test.YtbmjlbcaplgfmaaGreatDoorPartC
import Derived.Deep.RegionHeld3
import Derived.Test.YtbmjlbcaplgfmaaGreatDoorPartF
namespace Go.Proofs.YtbmjlbcaplgfmaaGreatDoor
open Go.RowKit

theorem Only.below {F : Nat → Prop} {b : Nat} {w0 w w' : World} (h0 : Below b w0 w) (h : Only F w w') (hF : ∀ k, F k → b ≤ k) (hb : b ≤ w.heap.size) : Below b w0 w' :=
  ⟨h.1.trans h0.os, h.2.1.trans h0.tape, h.2.2.1.trans h0.output, Nat.le_trans h0.size h.2.2.2.1, fun k hk => (h.2.2.2.2 k (by omega) (fun hf => by have := hF k hf; omega)).trans (h0.block k hk)⟩

/-- The bytes of instructions. -/
def flat (C : List B.In) : List Nat := C.flatMap (fun i => [i.1, i.2.1, i.2.2.1, i.2.2.2])
/-- Instructions of a program of one function: those that the machine of one task knows. -/
def okIn (nr len : Nat) (i : B.In) : Bool :=
  match i with
  | (0, a, b, c) => decide (a < nr ∧ b ≤ 255 ∧ c ≤ 255)
  | (1, a, b, c) => decide (a < nr ∧ b < nr ∧ c = 0)
  | (3, a, b, c) => decide (a < nr ∧ b < nr ∧ c < nr)
  | (6, a, b, c) => decide (a < nr ∧ b < nr ∧ c < nr)
  | (7, a, b, c) => decide (a = 0 ∧ b = 0 ∧ c ≤ len ∧ c ≤ 255)
  | (8, a, b, c) => decide (a < nr ∧ b = 0 ∧ c ≤ len ∧ c ≤ 255)
  | (9, a, b, c) => decide (a < nr ∧ b ≤ 8 ∧ c = 0)
  | (10, a, b, c) => decide (a < nr ∧ b < nr ∧ c < nr)
  | (11, a, b, c) => decide (a < nr ∧ b < nr ∧ c < nr)
  | (14, a, b, c) => decide (a < nr ∧ b = 0 ∧ c = 0)
  | (20, a, b, c) => decide (a < nr ∧ b = 0 ∧ c = 0)
  | _ => false
def okCode (nr : Nat) (C : List B.In) : Prop := 2 ≤ nr ∧ nr ≤ 8 ∧ 1 ≤ C.length ∧ C.length ≤ 200 ∧ C.all (okIn nr C.length) = true

/-- Events lie in a list. -/
def Evs (w : World) (ad : Option Addr) (len : Nat) (ev : List B.Ev) : Prop := len = ev.length ∧ (ev ≠ [] → ∃ g T fr cur, ad = some ⟨g, 0, none⟩ ∧ w.heap[g]? = some (.cells cur T fr) ∧
  ∀ i x, ev[i]? = some x → cur[i * 3]? = some (.int .i64 (x.1 : Int)) ∧ cur[i * 3 + 1]? = some (.int .i64 1) ∧ cur[i * 3 + 2]? = some (.int .i64 x.2))

abbrev MachT := World → Nat → (Nat → Prop) → List B.In → Nat → Nat → Nat → B.St → Nat → Prop

def LoadOk (Good : World → Prop) (Mach : MachT) : Prop := ∀ (C : List B.In) (nr n q wk : Nat) (w : World), okCode nr C → 1 ≤ n → n ≤ 200 → 1 ≤ q → q ≤ 50 → 1 ≤ wk → wk ≤ 50 → Good w →
  Calls Tryz.prog 21 #[.string (txt (1 :: nr :: C.length :: flat C)), .agg #[.int .i64 n, .int .i64 q, .int .i64 wk, .int .i64 1]] w fun e w' =>
    ∃ mb F, e = .returned (.tuple #[P0 mb, .agg #[.int .i64 0, .int .i64 0]]) ∧ Below w.heap.size w w' ∧ (∀ k, F k → w.heap.size ≤ k ∧ k < w'.heap.size) ∧ Mach w' mb F C nr n q (0, fun _ => (0, 0), fun _ => []) 0

def TurnOk (Mach : MachT) : Prop := ∀ (C : List B.In) (nr n q mb : Nat) (F : Nat → Prop) (s : B.St) (w : World), Mach w mb F C nr n q s 0 →
  Calls Tryz.prog 22 #[P0 mb, .int .i64 0, .slice none 0 0] w fun e w' =>
    ∃ F' s' r ev ad len cap, e = .returned (.slice ad len cap) ∧ len ≤ maxLen ∧ Evs w' ad len ev ∧ Only F w w' ∧ (∀ k, F' k → F k ∨ (w.heap.size ≤ k ∧ k < w'.heap.size)) ∧ B.Runs C nr n q s s' r ev ∧ (r < 3 → Mach w' mb F' C nr n q s' r)

def TurnOff (Mach : MachT) : Prop := ∀ (C : List B.In) (nr n q mb : Nat) (F : Nat → Prop) (s : B.St) (r : Nat) (w : World), r ≠ 0 → Mach w mb F C nr n q s r →
  Calls Tryz.prog 22 #[P0 mb, .int .i64 0, .slice none 0 0] w fun e w' =>
    ∃ F' ad cap, e = .returned (.slice ad 0 cap) ∧ Only F w w' ∧ (∀ k, F' k → F k ∨ (w.heap.size ≤ k ∧ k < w'.heap.size)) ∧ Mach w' mb F' C nr n q s r

def StateOk (Mach : MachT) : Prop := ∀ (C : List B.In) (nr n q mb : Nat) (F : Nat → Prop) (s : B.St) (r : Nat) (w : World), Mach w mb F C nr n q s r →
  Calls Tryz.prog 23 #[P0 mb] w fun e w' => e = .returned (.int .i64 (if r = 0 then 1 else if r = 1 then 4 else 5)) ∧ Only F w w'

def KeepOk (Mach : MachT) : Prop := ∀ (C : List B.In) (nr n q mb : Nat) (F : Nat → Prop) (s : B.St) (r : Nat) (w w' : World), Mach w mb F C nr n q s r → (∀ k, F k → w'.heap[k]? = w.heap[k]?) → Mach w' mb F C nr n q s r

def GoodOk (Good : World → Prop) : Prop := ∀ w w', Good w → Below w.heap.size w w' → Good w'

def Iface (Good : World → Prop) (Mach : MachT) : Prop := LoadOk Good Mach ∧ TurnOk Mach ∧ TurnOff Mach ∧ StateOk Mach ∧ KeepOk Mach ∧ GoodOk Good

theorem txt_cons (l : List Nat) : ({ data := #[1] } : ByteArray) ++ txt l = txt (1 :: l) := by
  unfold txt
  apply ByteArray.ext
  simp

/-- What lies in an event's place. -/
theorem Evs.cells {w : World} {ad : Option Addr} {len : Nat} {ev : List B.Ev} (h : Evs w ad len ev) (hne : ev ≠ []) : ∃ g, ad = some ⟨g, 0, none⟩ ∧ g < w.heap.size ∧ ∀ i x, ev[i]? = some x → w.cell? ⟨g, i * 3, none⟩ = some (.int .i64 (x.1 : Int)) ∧ w.cell? ⟨g, i * 3 + 1, none⟩ = some (.int .i64 1) ∧ w.cell? ⟨g, i * 3 + 2, none⟩ = some (.int .i64 x.2) := by
  obtain ⟨g, T, fr, cur, h1, h2, h3⟩ := h.2 hne
  refine ⟨g, h1, heap_lt h2, fun i x hx => ?_⟩
  obtain ⟨a, b, c⟩ := h3 i x hx
  exact ⟨by simp [World.cell?, h2, a], by simp [World.cell?, h2, b], by simp [World.cell?, h2, c]⟩

end Go.Proofs.YtbmjlbcaplgfmaaGreatDoor

/-
  What lies in the memory of a machine of one task between two instructions; and that it stays where other blocks are written.
-/
namespace Go.Proofs.YtbmjlbcaplgfmaaGreatDoor
open Go.RowKit

/-- Where the parts of a machine lie. -/
structure Geo where
  eb : Nat
  tb : Nat
  lb : Nat
  cl : Nat
  ob : Nat
  co : Nat
  xe : Nat
  xt : Nat
  kb : Nat
  ck : Nat
  fb : Nat
  cb : Nat
  rb : Nat
  nr : Nat
  sb : Nat
  pb : Nat
  n : Nat
  ac : Nat

def kty (w : World) (k : Nat) : TypeId := match w.heap[k]? with | some (.cells _ T _) => T | _ => 0
theorem kty_of {w : World} {k : Nat} {cur : Array Value} {T : TypeId} {f : Nat × Nat} (h : w.heap[k]? = some (.cells cur T f)) : kty w k = T := by unfold kty; rw [h]
theorem kty_full {w : World} {g n m : Nat} {T : TypeId} {P : Nat → Value} (h : Full w g T n m P) : kty w g = T := by obtain ⟨cur, h, _⟩ := h; exact kty_of h
theorem kty_own {w : World} {base size n : Nat} {e : TypeId} {v : Value} {xs : List Value} (h : w.ownsRow base e size v n xs) {k : Nat} (hk : v.ownBlock = some k) : kty w k = e := by obtain ⟨_, _, cur, h⟩ := own_ty h k hk; exact kty_of h

/-- The instructions as they lie in memory. -/
def cdP (C : List B.In) : Nat → Value := fun j => .int .u8 (((flat C).getD j 0 : Nat) : Int)

/-- What no instruction writes. -/
structure Kon (w : World) (g : Geo) (C : List B.In) (Tk : Nat → Value) : Prop where
  hT : Full w g.tb 158 7 7 Tk
  t0 : Tk 0 = .int .i64 1
  t1 : Tk 1 = .slice (some ⟨g.kb, 0, none⟩) 1 g.ck
  t6 : Tk 6 = .slice none 0 0
  o28 : w.ownsRow 0 153 1 (.slice (some ⟨g.lb, 0, none⟩) 1 g.cl) 1 [P0 g.tb]
  o29 : w.ownsRow 0 148 2 (.slice (some ⟨g.ob, 0, none⟩) 1 g.co) 1 [.int .i64 0, .int .i64 0]
  oK : w.ownsRow 0 182 1 (.slice (some ⟨g.kb, 0, none⟩) 1 g.ck) 1 [P0 g.fb]
  hxe : w.heap[g.xe]? = some (.cells #[P0 g.eb] 91 (0, 0))
  hxt : w.heap[g.xt]? = some (.cells #[P0 g.tb] 153 (0, 0))
  hC : Full w g.cb 181 (C.length * 4) (C.length * 4) (cdP C)
  hA : ∀ k x, (actB (g.ac + 1))[k]? = some x → w.heap[g.ac + 1 + k]? = some (.cells #[x.1] x.2 (0, 0))

/-- The types of blocks that an instruction may write. -/
def KT (T : TypeId) : Prop := T = 143 ∨ T = 148 ∨ T = 278 ∨ T = 48 ∨ T = 235
theorem actB_kt (b k : Nat) (x : Value × TypeId) (h : (actB b)[k]? = some x) : ¬ KT x.2 := by
  have hm := List.mem_of_getElem? h
  have e : (actB b).map (·.2) = [185, 197, 185, 197, 188, 188, 188, 188, 185, 197, 191, 197, 191, 197, 193, 197, 193, 197, 197, 197, 185, 200, 185, 200, 185, 200, 185, 200, 185, 200, 185, 197] := rfl
  have : ∀ y : TypeId, y ∈ ([185, 197, 185, 197, 188, 188, 188, 188, 185, 197, 191, 197, 191, 197, 193, 197, 193, 197, 197, 197, 185, 200, 185, 200, 185, 200, 185, 200, 185, 200, 185, 197] : List TypeId) → ¬ (y = 143 ∨ y = 148 ∨ y = 278 ∨ y = 48 ∨ y = 235) := by decide
  exact this _ (e ▸ List.mem_map_of_mem hm)

theorem Kon.same {w w' : World} {g : Geo} {C : List B.In} {Tk : Nat → Value} (h : Kon w g C Tk)
    (hk : ∀ k cur T f, w.heap[k]? = some (.cells cur T f) → (k = g.ob ∨ ¬ KT T) → w'.heap[k]? = w.heap[k]?) : Kon w' g C Tk := by
  have hf : ∀ {b n m : Nat} {T : TypeId} {P : Nat → Value}, Full w b T n m P → ¬ KT T → Full w' b T n m P := by
    intro b n m T P h1 h2
    obtain ⟨cur, h3, _⟩ := id h1
    exact h1.block (hk b _ _ _ h3 (Or.inr h2))
  have ho : ∀ {base size n : Nat} {e : TypeId} {v : Value} {xs : List Value}, w.ownsRow base e size v n xs → (∀ k, v.ownBlock = some k → k = g.ob ∨ ¬ KT e) → w'.ownsRow base e size v n xs := by
    intro base size n e v xs h1 h2
    refine own_of h1 (fun k hb => ?_)
    obtain ⟨_, _, cur, h3⟩ := own_ty h1 k hb
    exact hk k _ _ _ h3 (h2 k hb)
  have n1 : ¬ KT 158 := by unfold KT; decide
  have n2 : ¬ KT 153 := by unfold KT; decide
  have n3 : ¬ KT 182 := by unfold KT; decide
  have n4 : ¬ KT 181 := by unfold KT; decide
  have n5 : ¬ KT 91 := by unfold KT; decide
  exact { hT := hf h.hT n1, t0 := h.t0, t1 := h.t1, t6 := h.t6, o28 := ho h.o28 (fun _ _ => Or.inr n2), o29 := ho h.o29 (fun k hb => Or.inl (by injection hb with hb; exact hb.symm)), oK := ho h.oK (fun _ _ => Or.inr n3), hxe := (hk _ _ _ _ h.hxe (Or.inr n5)).trans h.hxe, hxt := (hk _ _ _ _ h.hxt (Or.inr n2)).trans h.hxt, hC := hf h.hC n4, hA := fun k x hx => (hk _ _ _ _ (h.hA k x hx) (Or.inr (actB_kt _ k x hx))).trans (h.hA k x hx) }
theorem Kon.kept {S : Nat → Prop} {w w' : World} {g : Geo} {C : List B.In} {Tk : Nat → Value} (h : Kon w g C Tk) (hO : Only S w w') (hS : ∀ k, S k → k < w.heap.size → k ≠ g.ob ∧ KT (kty w k)) : Kon w' g C Tk :=
  h.same (fun k cur T f h1 h2 => hO.same (heap_lt h1) (fun hs => by
    obtain ⟨a, b⟩ := hS k hs (heap_lt h1)
    rcases h2 with h2 | h2
    · exact a h2
    · rw [kty_of h1] at b; exact h2 b))

/-- The engine's cells that stay. -/
structure Egn (g : Geo) (q : Nat) (E : Nat → Value) : Prop where
  e1 : E 1 = .int .i64 q
  eA : ∀ j, 3 ≤ j → j < 26 → E j = engF (.slice none 0 0) 0 0 g.ac j
  e26 : E 26 = P0 g.sb
  e27 : E 27 = .int .i64 0
  e28 : E 28 = .slice (some ⟨g.lb, 0, none⟩) 1 g.cl
  e29 : E 29 = .slice (some ⟨g.ob, 0, none⟩) 1 g.co
  e30 : E 30 = .slice none 0 0
  e32 : E 32 = .slice none 0 0
  e41 : E 41 = .bool false
theorem Egn.upd {g : Geo} {q : Nat} {E : Nat → Value} (h : Egn g q E) (j : Nat) (v : Value) (hj : j = 31 ∨ j = 42) : Egn g q (upd E j v) := by
  have h' : ∀ i, i ≠ 31 → i ≠ 42 → Go.Proofs.YtbmjlbcaplgfmaaGreatDoor.upd E j v i = E i := fun i h1 h2 => upd_off _ _ _ _ (by rcases hj with rfl | rfl <;> assumption)
  exact { e1 := (h' 1 (by omega) (by omega)).trans h.e1, eA := fun i h1 h2 => (h' i (by omega) (by omega)).trans (h.eA i h1 h2), e26 := (h' _ (by omega) (by omega)).trans h.e26, e27 := (h' _ (by omega) (by omega)).trans h.e27, e28 := (h' _ (by omega) (by omega)).trans h.e28, e29 := (h' _ (by omega) (by omega)).trans h.e29, e30 := (h' _ (by omega) (by omega)).trans h.e30, e32 := (h' _ (by omega) (by omega)).trans h.e32, e41 := (h' _ (by omega) (by omega)).trans h.e41 }

/-- A machine of one task that lives. -/
structure Run (w : World) (g : Geo) (C : List B.In) (q : Nat) (kd : Nat → Bool) (vb : Nat → Nat) (s : B.St) (E Tk : Nat → Value) : Prop where
  hK : Kon w g C Tk
  hE : Full w g.eb 143 43 43 E
  eE : Egn g q E
  hF : Fr w g.fb g.cb C.length s.1 g.rb g.nr (Fv 113 #[P0 g.xe, P0 g.xt]) s.2.1
  hS : Str w g.sb g.pb g.eb g.n kd vb s.2.2
  hH : B.Held kd g.nr g.n s
  ok : okCode g.nr C
  hn : g.n ≤ 200
  hp : s.1 ≤ C.length
  hvr : ∀ p, 1 ≤ p → p ≤ g.n → kd p = true → vb p ≠ g.rb ∧ vb p ≠ g.ob
  hro : g.rb ≠ g.ob

/-- The events of a turn so far; the queue, which is empty while the task runs. -/
structure Mid (w : World) (E Tk : Nat → Value) (bs qb cq : Nat) (ad : Option Addr) (ne cap : Nat) (ev : List B.Ev) : Prop where
  t2 : Tk 2 = .bool true
  t3 : Tk 3 = .pointer none
  e31 : E 31 = .slice (some ⟨qb, 0, none⟩) 0 cq
  o31 : w.ownsRow 0 153 1 (.slice (some ⟨qb, 0, none⟩) 0 cq) 0 []
  e42 : E 42 = .slice ad ne cap
  o42 : w.ownsRow bs 48 3 (.slice ad ne cap) ne (evL ev)
  hb : bs ≤ w.heap.size

/-- The blocks that an instruction may write. -/
def Wr (g : Geo) (kd : Nat → Bool) (vb : Nat → Nat) (ad : Option Addr) (ne cap : Nat) (k : Nat) : Prop :=
  k = g.eb ∨ k = g.tb ∨ k = g.lb ∨ k = g.ob ∨ k = g.kb ∨ k = g.fb ∨ k = g.rb ∨ k = g.pb ∨ (∃ p, 1 ≤ p ∧ p ≤ g.n ∧ kd p = true ∧ vb p = k) ∨ (Value.slice ad ne cap).ownBlock = some k

/-- An engine whose task runs no more: 1: it has ended; 2: no cell was free. -/
def Off (E : Nat → Value) (r : Nat) : Prop := E 27 = .int .i64 0 ∧ (r = 1 → (∃ a c, E 28 = .slice a 0 c) ∧ E 41 = .bool false) ∧ (r = 2 → (∃ a n c, E 28 = .slice a n c) ∧ E 41 = .bool true)

/-- What lies in memory behind an instruction. -/
def After (w w' : World) (g : Geo) (C : List B.In) (q : Nat) (kd : Nat → Bool) (vb : Nat → Nat) (Tk : Nat → Value) (bs qb cq : Nat) (ad : Option Addr) (ne cap : Nat) (ev : List B.Ev) (s' : B.St) (r : Nat) (ev1 : List B.Ev) : Prop :=
  Only (Wr g kd vb ad ne cap) w w' ∧
  ((r = 0 ∧ ∃ kd' vb' E' ad' ne' cap', Run w' g C q kd' vb' s' E' Tk ∧ Mid w' E' Tk bs qb cq ad' ne' cap' (ev ++ ev1) ∧ ne' ≤ ne + 1 ∧ ∀ p, 1 ≤ p → p ≤ g.n → kd' p = true → (kd p = true ∧ vb' p = vb p) ∨ w.heap.size ≤ vb' p) ∨
   (r ≠ 0 ∧ ∃ E' ad' ne' cap', Full w' g.eb 143 43 43 E' ∧ Off E' r ∧ E' 1 = .int .i64 q ∧ E' 42 = .slice ad' ne' cap' ∧ w'.ownsRow bs 48 3 (.slice ad' ne' cap') ne' (evL (ev ++ ev1)) ∧ ne' ≤ ne + 1 ∧ w'.cell? ⟨g.tb, 2, none⟩ = some (.bool false)))
def Acted (w w' : World) (g : Geo) (C : List B.In) (q : Nat) (kd : Nat → Bool) (vb : Nat → Nat) (Tk : Nat → Value) (bs qb cq : Nat) (ad : Option Addr) (ne cap : Nat) (ev : List B.Ev) (s : B.St) (i : B.In) (why : Nat) : Prop :=
  (why = 0 ∧ ∃ s' r ev1, B.Does g.nr g.n i s s' r ev1 ∧ After w w' g C q kd vb Tk bs qb cq ad ne cap ev s' r ev1) ∨
  (1 ≤ why ∧ why ≤ 8 ∧ (∀ s' ev1, B.Does g.nr g.n i s s' 3 ev1) ∧ w.grownBy w' none)

section
variable {w w' : World} {g : Geo} {C : List B.In} {q : Nat} {kd : Nat → Bool} {vb : Nat → Nat} {s : B.St} {E Tk : Nat → Value} {bs qb cq : Nat} {ad : Option Addr} {ne cap : Nat} {ev : List B.Ev}

theorem Str.keep {S : Nat → Prop} {sb pb eb n : Nat} {M : Nat → List B.V} (h : Str w sb pb eb n kd vb M) (hO : Only S w w') (h1 : ¬ S sb) (h2 : ¬ S pb) (h3 : ∀ p, 1 ≤ p → p ≤ n → kd p = true → ¬ S (vb p)) : Str w' sb pb eb n kd vb M :=
  ⟨hO.block h.1 h1, h.2.1.only hO h2, fun p a b c => (h.2.2.1 p a b c).only hO (h3 p a b c), h.2.2.2⟩
theorem Fr.keep {S : Nat → Prop} {fb cb L nx rb nr : Nat} {back : Value} {R : Nat → B.V} (h : Fr w fb cb L nx rb nr back R) (hO : Only S w w') (h1 : ¬ S fb) (h2 : ¬ S rb) : Fr w' fb cb L nx rb nr back R :=
  ⟨hO.block h.1 h1, h.2.1.only hO h2, h.2.2⟩
theorem Mid.keep {S : Nat → Prop} (h : Mid w E Tk bs qb cq ad ne cap ev) (hO : Only S w w') (h1 : ∀ k, kty w k = 153 ∨ kty w k = 48 → ¬ S k) : Mid w' E Tk bs qb cq ad ne cap ev :=
  { t2 := h.t2, t3 := h.t3, e31 := h.e31, e42 := h.e42, hb := Nat.le_trans h.hb hO.size,
    o31 := own_of h.o31 (fun k hk => hO.same (own_ty h.o31 k hk).2.1 (h1 k (Or.inl (kty_own h.o31 hk)))),
    o42 := own_of h.o42 (fun k hk => hO.same (own_ty h.o42 k hk).2.1 (h1 k (Or.inr (kty_own h.o42 hk)))) }

/-- The types of a machine's blocks. -/
theorem Run.ty (h : Run w g C q kd vb s E Tk) : kty w g.eb = 143 ∧ kty w g.tb = 158 ∧ kty w g.fb = 235 ∧ kty w g.rb = 148 ∧ kty w g.sb = 204 ∧ kty w g.pb = 278 ∧ kty w g.lb = 153 ∧ kty w g.ob = 148 ∧ kty w g.kb = 182 ∧ (∀ p, 1 ≤ p → p ≤ g.n → kd p = true → kty w (vb p) = 148) :=
  ⟨kty_full h.hE, kty_full h.hK.hT, kty_of h.hF.1, kty_full h.hF.2.1, kty_of h.hS.1, kty_full h.hS.2.1, kty_own h.hK.o28 rfl, kty_own h.hK.o29 rfl, kty_own h.hK.oK rfl, fun p a b c => kty_full (h.hS.2.2.1 p a b c)⟩
theorem Run.lt (h : Run w g C q kd vb s E Tk) : g.eb < w.heap.size ∧ g.tb < w.heap.size ∧ g.fb < w.heap.size ∧ g.rb < w.heap.size ∧ g.sb < w.heap.size ∧ g.pb < w.heap.size ∧ g.lb < w.heap.size ∧ g.ob < w.heap.size ∧ g.kb < w.heap.size ∧ g.cb < w.heap.size ∧ (∀ p, 1 ≤ p → p ≤ g.n → kd p = true → vb p < w.heap.size) :=
  ⟨h.hE.lt, h.hK.hT.lt, heap_lt h.hF.1, h.hF.2.1.lt, heap_lt h.hS.1, h.hS.2.1.lt, (own_ty h.hK.o28 _ rfl).2.1, (own_ty h.hK.o29 _ rfl).2.1, (own_ty h.hK.oK _ rfl).2.1, h.hK.hC.lt, fun p a b c => (h.hS.2.2.1 p a b c).lt⟩
theorem ne_ty {a b : Nat} {S T : TypeId} (h1 : kty w a = S) (h2 : kty w b = T) (hn : S ≠ T) : a ≠ b := fun e => hn (by rw [← h1, ← h2, e])

/-- Nothing is written. -/
theorem Run.grown (h : Run w g C q kd vb s E Tk) (hg : w.grownBy w' none) : Run w' g C q kd vb s E Tk :=
  { hK := h.hK.kept (S := fun _ => False) (only_none hg) (fun _ hk => hk.elim), hE := h.hE.block (hg.block _ h.hE.lt (by intro e; cases e)), eE := h.eE, hF := h.hF.kept hg, hS := h.hS.kept hg, hH := h.hH, ok := h.ok, hn := h.hn, hp := h.hp, hvr := h.hvr, hro := h.hro }
theorem Mid.grown (h : Mid w E Tk bs qb cq ad ne cap ev) (hg : w.grownBy w' none) : Mid w' E Tk bs qb cq ad ne cap ev :=
  h.keep (S := fun _ => False) (only_none hg) (fun _ _ hk => hk)

/-- The registers are written. -/
theorem Run.regs {R : Nat → B.V} (h : Run w g C q kd vb s E Tk) (hg : w.grownBy w' (some g.rb)) (hF : Fr w' g.fb g.cb C.length s.1 g.rb g.nr (Fv 113 #[P0 g.xe, P0 g.xt]) R) (hH : B.Held kd g.nr g.n (s.1, R, s.2.2)) : Run w' g C q kd vb (s.1, R, s.2.2) E Tk := by
  have hO : Only (fun k => k = g.rb) w w' := only_grown hg rfl
  obtain ⟨y1, y2, y3, y4, y5, y6, y7, y8, y9, y10⟩ := h.ty
  exact { hK := h.hK.kept hO (fun k hk _ => by subst hk; exact ⟨h.hro, Or.inr (Or.inl y4)⟩), hE := h.hE.only hO (ne_ty y1 y4 (by decide)), eE := h.eE, hF := hF, hS := h.hS.keep hO (ne_ty y5 y4 (by decide)) (ne_ty y6 y4 (by decide)) (fun p a b c => (h.hvr p a b c).1), hH := hH, ok := h.ok, hn := h.hn, hp := h.hp, hvr := h.hvr, hro := h.hro }
/-- The place in the function is written. -/
theorem Run.next {y : Nat} (h : Run w g C q kd vb s E Tk) (hg : w.grownBy w' (some g.fb)) (hF : Fr w' g.fb g.cb C.length y g.rb g.nr (Fv 113 #[P0 g.xe, P0 g.xt]) s.2.1) (hy : y ≤ C.length) : Run w' g C q kd vb (y, s.2.1, s.2.2) E Tk := by
  have hO : Only (fun k => k = g.fb) w w' := only_grown hg rfl
  obtain ⟨y1, y2, y3, y4, y5, y6, y7, y8, y9, y10⟩ := h.ty
  exact { hK := h.hK.kept hO (fun k hk _ => by subst hk; exact ⟨ne_ty y3 y8 (by decide), by rw [y3]; unfold KT; decide⟩), hE := h.hE.only hO (ne_ty y1 y3 (by decide)), eE := h.eE, hF := hF, hS := h.hS.keep hO (ne_ty y5 y3 (by decide)) (ne_ty y6 y3 (by decide)) (fun p a b c => ne_ty (y10 p a b c) y3 (by decide)), hH := h.hH, ok := h.ok, hn := h.hn, hp := hy, hvr := h.hvr, hro := h.hro }
theorem Mid.fb (h : Run w g C q kd vb s E Tk) (hm : Mid w E Tk bs qb cq ad ne cap ev) (hg : w.grownBy w' (some g.fb)) : Mid w' E Tk bs qb cq ad ne cap ev := by
  obtain ⟨y1, y2, y3, y4, y5, y6, y7, y8, y9, y10⟩ := h.ty
  refine hm.keep (only_grown (S := fun k => k = g.fb) hg rfl) (fun k hk e => ?_)
  subst e; rw [y3] at hk; exact absurd hk (by decide)
theorem Mid.rb (h : Run w g C q kd vb s E Tk) (hm : Mid w E Tk bs qb cq ad ne cap ev) (hg : w.grownBy w' (some g.rb)) : Mid w' E Tk bs qb cq ad ne cap ev := by
  obtain ⟨y1, y2, y3, y4, y5, y6, y7, y8, y9, y10⟩ := h.ty
  refine hm.keep (only_grown (S := fun k => k = g.rb) hg rfl) (fun k hk e => ?_)
  subst e; rw [y4] at hk; exact absurd hk (by decide)

/-- What leave needs. -/
theorem Run.leav (h : Run w g C q kd vb s E Tk) (hm : Mid w E Tk bs qb cq ad ne cap ev) (hne : ne ≤ 100000) : Leav w g.eb g.tb g.lb g.cl g.ob g.co bs ad ne cap ev E Tk :=
  ⟨h.hE, h.hK.hT, h.eE.e28, h.hK.o28, h.eE.e29, h.hK.o29, h.eE.e30, hm.e42, hm.o42, h.hK.t0, hm.t3, h.hK.t6, hm.hb, hne⟩
theorem own_cell {base size n : Nat} {e : TypeId} {g cap : Nat} {x : Value} {xs : List Value} (h : w.ownsRow base e size (.slice (some ⟨g, 0, none⟩) n cap) n (x :: xs)) : w.cell? ⟨g, 0, none⟩ = some x := by
  rcases h.2 with ⟨h, _⟩ | ⟨g', c', cur, h1, _, h2, _, _, h3, h4⟩
  · cases h
  · cases h1
    have : cur[0]? = some x := by
      have := congrArg (fun l => l[0]?) h4
      simp [List.getElem?_take] at this
      exact this.2
    simp [World.cell?, h2, this]
/-- What the collector reads. -/
theorem Run.rts (h : Run w g C q kd vb s E Tk) : Rts w w.heap.size g.eb g.lb g.cl g.tb g.kb g.ck g.fb g.cb C.length s.1 g.rb g.nr (Fv 113 #[P0 g.xe, P0 g.xt]) g.sb g.pb g.n kd vb s := by
  obtain ⟨l1, l2, l3, l4, l5, l6, l7, l8, l9, l10, l11⟩ := h.lt
  refine ⟨(h.hE.cell 28 (by omega)).trans (by rw [h.eE.e28]), own_cell h.hK.o28, (h.hE.cell 30 (by omega)).trans (by rw [h.eE.e30]), (h.hK.hT.cell 1 (by omega)).trans (by rw [h.hK.t1]), own_cell h.hK.oK, h.hF, h.hS, ⟨l1, l7, l2, l9, l3, l4, l5, l6, l11⟩, h.hH, h.hn, h.ok.2.1⟩
end
end Go.Proofs.YtbmjlbcaplgfmaaGreatDoor

/-
  The instruction Cell, as it stands in the table.
-/
namespace Go.Proofs.YtbmjlbcaplgfmaaGreatDoor
open Go.RowKit

set_option maxRecDepth 100000 in
set_option maxHeartbeats 1000000 in
theorem act9_any (op a b c eb lb cl tb kb ck fb cb L nx rb nr base vbx wb : Nat) (back : Value) (sb pb n : Nat) (kd : Nat → Bool) (vb : Nat → Nat) (s : B.St) (ad : Option Addr) (ne cap : Nat) (ev : List B.Ev) (E Tk : Nat → Value) (w : World)
    (hR : Rts w w.heap.size eb lb cl tb kb ck fb cb L nx rb nr back sb pb n kd vb s) (hb8 : b ≤ 8) (ha : a < nr) (hE : Full w eb 143 43 43 E) (hT : Full w tb 158 7 7 Tk) (h26 : E 26 = P0 sb) (h42 : E 42 = .slice ad ne cap) (o42 : w.ownsRow base 48 3 (.slice ad ne cap) ne (evL ev)) (t0 : Tk 0 = .int .i64 1) (hbs : base ≤ w.heap.size) (hne : ne ≤ 100000)
    (hvr : ∀ p, 1 ≤ p → p ≤ n → kd p = true → vb p ≠ rb) (hv : w.heap[vbx]? = some (.cells #[Fv 93 #[]] 193 (0, 0))) (hw : w.heap[wb]? = some (.cells #[Fv 144 #[P0 vbx]] 197 (0, 0))) :
    Calls Tryz.prog 150 #[stepV op a b c fb tb eb, P0 wb] w fun e w' => e = .returned (.int .i64 0) ∧ Celled w w' a b eb tb fb cb L nx rb nr sb pb n base back kd vb s ad ne cap ev E Tk := by
  have KR := hid hR
  have KE := hid hE
  have KT := hid hT
  have HF := hid (And.intro h26 (And.intro h42 (And.intro o42 t0)))
  have HV := hid hv
  have HVR := hid hvr
  have c0 : w.cell? ⟨wb, 0, none⟩ = some (Fv 144 #[P0 vbx]) := by simp [World.cell?, hw]
  have lw := heap_lt hw
  clear hR hE hT h26 h42 o42 t0 hv hw hvr
  go_enter Tryz.func150, Tryz.ntmps150
  go_wp2_with fail
  have KG1 := hid (World.grownBy_alloc w (.cells #[.int .u8 (op : Int), .int .u8 (a : Int), .int .u8 (b : Int), .int .u8 (c : Int), P0 fb, P0 tb, P0 eb] 184) none)
  have hk : ∀ k, k < w.heap.size → (w.alloc (.cells #[.int .u8 (op : Int), .int .u8 (a : Int), .int .u8 (b : Int), .int .u8 (c : Int), P0 fb, P0 tb, P0 eb] 184)).heap[k]? = w.heap[k]? := fun k hk => KG1.out.block k hk (by intro e; cases e)
  refine (makes93_any op a b c eb lb cl tb kb ck fb cb L nx rb nr base vbx back sb pb n kd vb s ad ne cap ev E Tk _ (KR.out.kept KG1.out) hb8 ha (KE.out.block (hk _ KE.out.lt)) (KT.out.block (hk _ KT.out.lt)) HF.out.1 HF.out.2.1 (own_of HF.out.2.2.1 (fun k h => hk k (own_ty HF.out.2.2.1 k h).2.1)) HF.out.2.2.2 (by simp; omega) hne HVR.out (grown_out KG1.out HV.out)).mono ?_
  rintro e w3 ⟨rfl, hC⟩
  have HR := hid (Celled.pre KG1.out hC)
  clear hC hk
  go_wp2_with fail
  go_ret
  exact ⟨rfl, HR.out⟩
end Go.Proofs.YtbmjlbcaplgfmaaGreatDoor

/-
  A slot of a cell is found, or why there is none.
-/
namespace Go.Proofs.YtbmjlbcaplgfmaaGreatDoor
open Go.RowKit

/-- There is such a slot. -/
def okSlot (M : Nat → List B.V) (x y : B.V) : Prop := x.1 ≠ 0 ∧ y.1 = 0 ∧ 0 ≤ y.2 ∧ y.2 < ((M x.1).length : Int)
def Slotted (vb : Nat → Nat) (M : Nat → List B.V) (x y : B.V) (v : Value) : Prop :=
  (okSlot M x y ∧ v = .tuple #[.pointer (some ⟨vb x.1, y.2.toNat * 2, none⟩), .int .i64 0]) ∨ (¬ okSlot M x y ∧ ∃ why : Nat, 1 ≤ why ∧ why ≤ 8 ∧ v = .tuple #[.pointer none, .int .i64 why])

set_option maxRecDepth 100000 in
set_option maxHeartbeats 2000000 in
theorem slot_any (op a b c fb tb eb sb pb n : Nat) (x y : B.V) (kd : Nat → Bool) (vb : Nat → Nat) (M : Nat → List B.V) (w : World) (hS : Str w sb pb eb n kd vb M) (hn : n ≤ 200) (hx : B.Vok kd n x) (h26 : w.cell? ⟨eb, 26, none⟩ = some (P0 sb)) (le : eb < w.heap.size) :
    Calls Tryz.prog 147 #[stepV op a b c fb tb eb, vA x, vA y] w fun e w' => ∃ v, e = .returned v ∧ w.grownBy w' none ∧ Slotted vb M x y v := by
  have KS := hid hS
  have HX := hid hx
  obtain ⟨y1, y2⟩ := y
  have hl8 : x.1 ≠ 0 → (M x.1).length ≤ 8 := fun h0 => by
    rcases hx with h | h
    · exact absurd h h0
    · exact hS.2.2.2.2 _ h.2.2.1
  clear hS hx
  go_enter Tryz.func147, Tryz.ntmps147
  go_wp2_with fail
  generalize hW : ((w.alloc (.cells #[.int .u8 (op : Int), .int .u8 (a : Int), .int .u8 (b : Int), .int .u8 (c : Int), P0 fb, P0 tb, P0 eb] 184)).alloc (.cells #[.int .i64 (x.1 : Int), .int .i64 x.2] 148)).alloc (.cells #[.int .i64 (y1 : Int), .int .i64 y2] 148) = w1
  have KG1 : Hid (w.grownBy w1 none) := by rw [← hW]; exact grown_alloc (grown_alloc (World.grownBy_alloc _ _ _) _) _
  have hx1 : w1.heap[w.heap.size]? = some (stpB op a b c fb tb eb) := by rw [← hW, Below.heap_alloc _ _ _ (by simp; omega), Below.heap_alloc _ _ _ (by simp)]; exact heap_alloc_new w _
  have hx2 : w1.heap[w.heap.size + 1]? = some (.cells #[.int .i64 (x.1 : Int), .int .i64 x.2] 148 (0, 0)) := by
    rw [← hW, Below.heap_alloc _ _ _ (by simp)]
    have := heap_alloc_new (w.alloc (.cells #[.int .u8 (op : Int), .int .u8 (a : Int), .int .u8 (b : Int), .int .u8 (c : Int), P0 fb, P0 tb, P0 eb] 184)) (.cells #[.int .i64 (x.1 : Int), .int .i64 x.2] 148)
    simpa using this
  have hx3 : w1.heap[w.heap.size + 1 + 1]? = some (.cells #[.int .i64 (y1 : Int), .int .i64 y2] 148 (0, 0)) := by
    rw [← hW]
    have := heap_alloc_new ((w.alloc (.cells #[.int .u8 (op : Int), .int .u8 (a : Int), .int .u8 (b : Int), .int .u8 (c : Int), P0 fb, P0 tb, P0 eb] 184)).alloc (.cells #[.int .i64 (x.1 : Int), .int .i64 x.2] 148)) (.cells #[.int .i64 (y1 : Int), .int .i64 y2] 148)
    simpa using this
  clear hW
  have H3 := hid hx3
  have x6 := (s7_of hx1).2.2.2.2.2.2
  have c0 : w1.cell? ⟨w.heap.size + 1, 0, none⟩ = some (.int .i64 (x.1 : Int)) := by simp [World.cell?, hx2]
  have c1 : w1.cell? ⟨w.heap.size + 1, 1, none⟩ = some (.int .i64 x.2) := by simp [World.cell?, hx2]
  obtain ⟨d26, _⟩ := grown_cell KG1.out (a := ⟨eb, 26, none⟩) le
  rw [h26] at d26
  have lx1 := heap_lt hx1
  have lx2 := heap_lt hx2
  have lx3 := heap_lt hx3
  have le1 : eb < w1.heap.size := by have := KG1.out.size; omega
  clear hx1 hx2 hx3
  have HS : Hid (∀ w' : World, w1.grownBy w' none → w'.cell? ⟨w.heap.size, 6, none⟩ = some (P0 eb) ∧ w'.cell? ⟨eb, 26, none⟩ = some (P0 sb) ∧ w'.cell? ⟨w.heap.size + 1, 0, none⟩ = some (.int .i64 (x.1 : Int)) ∧ w'.cell? ⟨w.heap.size + 1, 1, none⟩ = some (.int .i64 x.2)) :=
    fun w' hg => ⟨(grown_cell hg (a := ⟨w.heap.size, 6, none⟩) lx1).1.trans x6, (grown_cell hg (a := ⟨eb, 26, none⟩) le1).1.trans d26, (grown_cell hg (a := ⟨w.heap.size + 1, 0, none⟩) lx2).1.trans c0, (grown_cell hg (a := ⟨w.heap.size + 1, 1, none⟩) lx2).1.trans c1⟩
  go_region_held3 (fun w' => w'.cell? ⟨w.heap.size, 6, none⟩ = some (P0 eb) ∧ w'.cell? ⟨eb, 26, none⟩ = some (P0 sb) ∧ w'.cell? ⟨w.heap.size + 1, 0, none⟩ = some (.int .i64 (x.1 : Int)) ∧ w'.cell? ⟨w.heap.size + 1, 1, none⟩ = some (.int .i64 x.2)) (first | exact HS.out _ (grown_drew (grown_refl _ _)) | exact HS.out _ HG2.out) (first | (go_at_call 183; refine (slots_any sb pb eb n x kd vb M w1.drew (KS.out.kept (grown_drew KG1.out)) hn HX.out).mono ?_; rintro e w2 ⟨hg2, hc⟩; have HG2 : Hid (w1.grownBy w2 none) := ⟨hg2.os, hg2.tape, hg2.output, hg2.size, hg2.block⟩; obtain ⟨ad2, n2, m2, ob, rfl, hcc⟩ : ∃ (ad2 : Option Addr) (n2 m2 : Nat) (ob : Bool), e = .returned (.tuple #[.slice ad2 n2 m2, .bool ob]) ∧ ((x.1 = 0 ∧ ob = false) ∨ (x.1 ≠ 0 ∧ ob = true ∧ ad2 = some ⟨vb x.1, 0, none⟩ ∧ n2 = (M x.1).length ∧ m2 = (M x.1).length)) := (by rcases hc with ⟨h1, h2⟩ | ⟨h1, h2⟩; exact ⟨_, _, _, _, h2, Or.inl ⟨h1, rfl⟩⟩; exact ⟨_, _, _, _, h2, Or.inr ⟨h1, rfl, rfl, rfl, rfl⟩⟩); have HCC := hid hcc; clear hc hcc hg2))
  all_goals
    have hx3 := grown_out HG2.out H3.out
    have e0 : w2.cell? ⟨w.heap.size + 1 + 1, 0, none⟩ = some (.int .i64 (y1 : Int)) := by simp [World.cell?, hx3]
    have e1 : w2.cell? ⟨w.heap.size + 1 + 1, 1, none⟩ = some (.int .i64 y2) := by simp [World.cell?, hx3]
    have le3 := heap_lt hx3
    have KG2 := hid (grown_trans KG1.out HG2.out)
    clear hx3 x6 c0 c1 d26
    rcases HCC.out with ⟨h1, rfl⟩ | ⟨h1, rfl, rfl, rfl, rfl⟩
    · have HP := hid (show ¬ okSlot M x (y1, y2) from fun h => h.1 h1)
      clear h1 hl8
      go_wp2_with fail
      go_ret2
      exact ⟨_, rfl, KG2.out, Or.inr ⟨HP.out, 2, by omega, by omega, rfl⟩⟩
    · have hl := hl8 h1
      have H1 := hid h1
      clear hl8 h1
      go_wp2_with fail
      refine (vnumber_any (y1, y2) _).mono ?_
      rintro e w3 ⟨rfl, hg3⟩
      have KG3 := hid (grown_trans KG2.out hg3)
      clear hg3 e0 e1
      generalize hln : (M x.1).length = ln at *
      have HLN := hid hln
      clear hln
      by_cases hy : y1 = 0
      · have hd : decide (y1 = 0) = true := by simpa using hy
        simp only [hd]
        by_cases h0 : y2 < 0
        · have HP := hid (show ¬ okSlot M x (y1, y2) from fun h => by have : (0 : Int) ≤ y2 := h.2.2.1; omega)
          have hneg : decide (y2 < 0) = true := by simpa using h0
          clear hy hd
          go_wp2_with fail
          go_ret2
          exact ⟨_, rfl, KG3.out, Or.inr ⟨HP.out, 3, by omega, by omega, rfl⟩⟩
        · obtain ⟨i, hi⟩ : ∃ i : Nat, y2 = i := ⟨y2.toNat, by omega⟩
          subst hi
          by_cases hlt : i < ln
          · have HP := hid (show okSlot M x (y1, (i : Int)) from ⟨H1.out, hy, by show (0 : Int) ≤ (i : Int); omega, by show (i : Int) < _; rw [HLN.out]; omega⟩)
            have hli : (i : Int) < (ln : Int) := by omega
            have hge : decide ((ln : Int) ≤ (i : Int)) = false := by simp; omega
            have hng : decide ((i : Int) < 0) = false := by simp
            clear hy hd h0
            go_wp2_with fail
            go_ret2
            exact ⟨_, rfl, KG3.out, Or.inl ⟨HP.out, by simp⟩⟩
          · have HP := hid (show ¬ okSlot M x (y1, (i : Int)) from fun h => by have : (i : Int) < _ := h.2.2.2; rw [HLN.out] at this; omega)
            have hge : decide ((ln : Int) ≤ (i : Int)) = true := by simp; omega
            have hng : decide ((i : Int) < 0) = false := by simp
            have hge2 : (ln : Int) ≤ (i : Int) := by omega
            clear hy hd h0
            go_wp2_with fail
            go_ret2
            exact ⟨_, rfl, KG3.out, Or.inr ⟨HP.out, 3, by omega, by omega, rfl⟩⟩
      · have hd : decide (y1 = 0) = false := by simpa using hy
        simp only [hd]
        have HP := hid (show ¬ okSlot M x (y1, y2) from fun h => hy h.2.1)
        clear hy hd
        go_wp2_with fail
        go_ret2
        exact ⟨_, rfl, KG3.out, Or.inr ⟨HP.out, 1, by omega, by omega, rfl⟩⟩
end Go.Proofs.YtbmjlbcaplgfmaaGreatDoor

/-
  The instructions Get and Put.
-/
namespace Go.Proofs.YtbmjlbcaplgfmaaGreatDoor
open Go.RowKit

set_option maxRecDepth 100000 in
set_option maxHeartbeats 2000000 in
/-- Get. -/
theorem act10_any (op a b c fb tb eb cb L nx rb nr sb pb n : Nat) (back : Value) (kd : Nat → Bool) (vb : Nat → Nat) (s : B.St) (w : World) (hF : Fr w fb cb L nx rb nr back s.2.1) (hS : Str w sb pb eb n kd vb s.2.2) (hH : B.Held kd nr n s) (hn : n ≤ 200) (ha : a < nr) (hb : b < nr) (hc : c < nr) (h26 : w.cell? ⟨eb, 26, none⟩ = some (P0 sb)) (le : eb < w.heap.size) (hvr : ∀ p, 1 ≤ p → p ≤ n → kd p = true → vb p ≠ rb) :
    Calls Tryz.prog 94 #[stepV op a b c fb tb eb] w fun e w' => (okSlot s.2.2 (s.2.1 b) (s.2.1 c) ∧ e = .returned (.int .i64 0) ∧ w.grownBy w' (some rb) ∧ Fr w' fb cb L nx rb nr back (B.set s.2.1 a ((s.2.2 (s.2.1 b).1).getD (s.2.1 c).2.toNat (0, 0)))) ∨ (¬ okSlot s.2.2 (s.2.1 b) (s.2.1 c) ∧ ∃ why : Nat, 1 ≤ why ∧ why ≤ 8 ∧ e = .returned (.int .i64 why) ∧ w.grownBy w' none) := by
  have KF := hid hF
  have KS := hid hS
  have HH := hid hH
  have HVR := hid hvr
  clear hF hS hH hvr
  go_enter Tryz.func94, Tryz.ntmps94
  go_wp2_with fail
  have HX1 := hid (s7_new w op a b c fb tb eb)
  have KG1 := hid (World.grownBy_alloc w (.cells #[.int .u8 (op : Int), .int .u8 (a : Int), .int .u8 (b : Int), .int .u8 (c : Int), P0 fb, P0 tb, P0 eb] 184) none)
  generalize hW : w.alloc (.cells #[.int .u8 (op : Int), .int .u8 (a : Int), .int .u8 (b : Int), .int .u8 (c : Int), P0 fb, P0 tb, P0 eb] 184) = w1 at *
  have hz1 : w1.heap.size = w.heap.size + 1 := by rw [← hW]; simp
  clear hW
  go_region_held3 (fun w' => w'.cell? ⟨w.heap.size, 0, none⟩ = some (.int .u8 (op : Int)) ∧ w'.cell? ⟨w.heap.size, 1, none⟩ = some (.int .u8 (a : Int)) ∧ w'.cell? ⟨w.heap.size, 2, none⟩ = some (.int .u8 (b : Int)) ∧ w'.cell? ⟨w.heap.size, 3, none⟩ = some (.int .u8 (c : Int)) ∧ w'.cell? ⟨w.heap.size, 4, none⟩ = some (P0 fb) ∧ w'.cell? ⟨w.heap.size, 5, none⟩ = some (P0 tb) ∧ w'.cell? ⟨w.heap.size, 6, none⟩ = some (P0 eb)) (first | exact s7_of HX1.out | exact s7_of HX2.out | exact s7_of HX3.out | exact s7_of HX4.out) (first | (go_at_call 79; refine (b_any op a b c fb tb eb cb L nx rb nr back s.2.1 w1.drew (KF.out.kept (grown_drew KG1.out)).1 (KF.out.kept (grown_drew KG1.out)).2.1 hb).mono ?_; rintro e w2 ⟨rfl, hg2⟩; have KG2 : Hid (w.grownBy w2 none) := grown_trans (grown_drew KG1.out) hg2; have HX2 := hid (grown_out hg2 (show w1.drew.heap[w.heap.size]? = _ from HX1.out)); clear hg2) | (go_at_call 87; refine (c_any op a b c fb tb eb cb L nx rb nr back s.2.1 w2 (KF.out.kept KG2.out).1 (KF.out.kept KG2.out).2.1 hc).mono ?_; rintro e w3 ⟨rfl, hg3⟩; have KG3 : Hid (w.grownBy w3 none) := grown_trans KG2.out hg3; have HX3 := hid (grown_out hg3 HX2.out); clear hg3) | (go_at_call 147; refine (slot_any op a b c fb tb eb sb pb n (s.2.1 b) (s.2.1 c) kd vb s.2.2 w3 (KS.out.kept KG3.out) hn (HH.out.1 b hb) ((grown_cell KG3.out (a := ⟨eb, 26, none⟩) le).1.trans h26) (Nat.lt_of_lt_of_le le KG3.out.size)).mono ?_; rintro e w4 ⟨v, rfl, hg4, hsl⟩; have KG4 : Hid (w.grownBy w4 none) := grown_trans KG3.out hg4; have HX4 := hid (grown_out hg4 HX3.out); obtain ⟨pv, wy, rfl⟩ : ∃ (pv : Value) (wy : Int), v = .tuple #[pv, .int .i64 wy] := (by rcases hsl with ⟨_, h⟩ | ⟨_, y, _, _, h⟩; exact ⟨_, _, h⟩; exact ⟨_, _, h⟩); have HSL := hid hsl; clear hg4 hsl))

  all_goals
    rcases HSL.out with ⟨hok, he⟩ | ⟨hok, why, hw1, hw2, he⟩
    · have HOK := hid hok
      obtain ⟨o1, o2, o3, o4⟩ := id hok
      have hp : 1 ≤ (s.2.1 b).1 ∧ (s.2.1 b).1 ≤ n ∧ kd (s.2.1 b).1 = true := by
        rcases HH.out.1 b hb with h | h
        · exact absurd h o1
        · exact ⟨h.1, h.2.1, h.2.2.1⟩
      injection he with he
      injection he with he
      injection he with he1 he2
      injection he2 with he2 _
      injection he2 with _ he2
      subst he1 he2
      have hFu := (KS.out.2.2.1 _ hp.1 hp.2.1 hp.2.2).block (KG4.out.block _ (KS.out.2.2.1 _ hp.1 hp.2.1 hp.2.2).lt (by intro e; cases e))
      have hne := HVR.out _ hp.1 hp.2.1 hp.2.2
      generalize hi : (s.2.1 c).2.toNat = i at *
      have hil : i < (s.2.2 (s.2.1 b).1).length := by omega
      have r0 := hFu.cell (i * 2) (by omega)
      have r1 := hFu.cell (i * 2 + 1) (by omega)
      rw [regP_0] at r0
      rw [regP_1] at r1
      have lv := hFu.lt
      have HFU := hid hFu
      generalize hval : slots s.2.2 (s.2.1 b).1 i = val at *
      have HVAL := hid hval
      have HI := hid hi
      generalize vb (s.2.1 b).1 = vg at *
      clear hok o1 o2 o3 o4 hp hFu hi hval
      have HF4 := hid (KF.out.kept KG4.out)
      obtain ⟨x0, x1, x2, x3, x4, x5, x6⟩ := s7_of HX4.out
      have lx := heap_lt HX4.out
      go_wp2_with fail
      go_region_with (go_at_call 138; refine (set_any op a b c fb tb eb cb L nx rb nr back s.2.1 val w4.drew (HF4.out.kept (grown_drew (grown_refl _ _))).1 (HF4.out.kept (grown_drew (grown_refl _ _))).2.1 ha).mono ?_; rintro e w5 ⟨rfl, hg5', hf5⟩; have hg5 : w4.grownBy w5 (some rb) := ⟨hg5'.os, hg5'.tape, hg5'.output, hg5'.size, hg5'.block⟩; have HR := hid (And.intro (grown_trans (grown_of_none KG4.out) hg5) (And.intro (grown_heap hg5 HF4.out.1 (by intro e; injection e with e; exact KF.out.2.2 e)) hf5)); clear hg5' hg5 hf5)
      all_goals
        go_wp2_with fail
        go_ret
        exact Or.inl ⟨HOK.out, rfl, HR.out.1, HR.out.2.1, by show Full _ _ _ _ _ (regP (B.set s.2.1 a (slots s.2.2 (s.2.1 b).1 _))); rw [HI.out, HVAL.out]; exact HR.out.2.2, KF.out.2.2⟩
    · injection he with he
      injection he with he
      injection he with he1 he2
      injection he2 with he2 _
      injection he2 with _ he2
      subst he1 he2
      have HOK := hid hok
      have hne0 : ¬ ((why : Int) = 0) := by omega
      clear hok
      go_wp2_with fail
      go_ret
      exact Or.inr ⟨HOK.out, why, hw1, hw2, rfl, KG4.out⟩
end Go.Proofs.YtbmjlbcaplgfmaaGreatDoor

/-
  The instruction Put.
-/
namespace Go.Proofs.YtbmjlbcaplgfmaaGreatDoor
open Go.RowKit

/-- A slot is written. -/
theorem str_put {w : World} {sb pb eb n p i : Nat} {kd : Nat → Bool} {vb : Nat → Nat} {M : Nat → List B.V} (v : B.V) (h : Str w sb pb eb n kd vb M) (h1 : 1 ≤ p) (h2 : p ≤ n) (h3 : kd p = true) (hi : i < (M p).length) :
    Str ((w.setCell ⟨vb p, i * 2, none⟩ (.int .i64 (v.1 : Int))).setCell ⟨vb p, i * 2 + 1, none⟩ (.int .i64 v.2)) sb pb eb n kd vb (B.lay M p ((M p).set i v)) := by
  obtain ⟨s1, s2, s3, s4, s5⟩ := h
  have hF := s3 p h1 h2 h3
  obtain ⟨cur, hV, _⟩ := id hF
  obtain ⟨curP, hP, _⟩ := id s2
  have e1 : sb ≠ vb p := cells_ne s1 hV (by decide)
  have e2 : pb ≠ vb p := cells_ne hP hV (by decide)
  refine ⟨((Below.heap_setCell _ _ _ _ e1).trans (Below.heap_setCell _ _ _ _ e1)).trans s1, ((s2.off e2).off e2).congr (fun j _ => ?_), fun q a b c => ?_, s4, fun q a => ?_⟩
  · unfold plcP
    by_cases e : j / 3 + 1 = p
    · rw [e, B.lay_at]; simp
    · rw [B.lay_off _ _ _ _ e]
  · by_cases e : q = p
    · subst e
      rw [B.lay_at]
      simp only [List.length_set]
      refine (hF.reg i v).congr (fun j _ => ?_)
      have hs : ∀ x, B.set (slots M q) i v x = slots (B.lay M q ((M q).set i v)) q x := by
        intro x
        unfold slots
        rw [B.lay_at, List.getD_eq_getElem?_getD, List.getElem?_set]
        by_cases ex : x = i
        · subst ex; rw [B.set_at, if_pos rfl, if_pos hi]; rfl
        · rw [B.set_off _ _ _ _ ex, if_neg (fun h => ex h.symm), List.getD_eq_getElem?_getD]
      unfold regP
      rw [hs]
    · have hne : vb q ≠ vb p := fun h => e (s4 q p a b h1 h2 c h3 h)
      rw [B.lay_off _ _ _ _ e]
      refine (((s3 q a b c).off hne).off hne).congr (fun j _ => ?_)
      unfold regP slots
      rw [B.lay_off _ _ _ _ e]
  · by_cases e : q = p
    · subst e; rw [B.lay_at, List.length_set]; exact s5 q a
    · rw [B.lay_off _ _ _ _ e]; exact s5 q a

set_option maxRecDepth 100000 in
set_option maxHeartbeats 2000000 in
/-- Put. -/
theorem act11_any (op a b c fb tb eb cb L nx rb nr sb pb n : Nat) (back : Value) (kd : Nat → Bool) (vb : Nat → Nat) (s : B.St) (w : World) (hF : Fr w fb cb L nx rb nr back s.2.1) (hS : Str w sb pb eb n kd vb s.2.2) (hH : B.Held kd nr n s) (hn : n ≤ 200) (ha : a < nr) (hb : b < nr) (hc : c < nr) (h26 : w.cell? ⟨eb, 26, none⟩ = some (P0 sb)) (le : eb < w.heap.size) :
    Calls Tryz.prog 95 #[stepV op a b c fb tb eb] w fun e w' => (okSlot s.2.2 (s.2.1 a) (s.2.1 b) ∧ e = .returned (.int .i64 0) ∧ w.grownBy w' (some (vb (s.2.1 a).1)) ∧ Str w' sb pb eb n kd vb (B.lay s.2.2 (s.2.1 a).1 ((s.2.2 (s.2.1 a).1).set (s.2.1 b).2.toNat (s.2.1 c)))) ∨ (¬ okSlot s.2.2 (s.2.1 a) (s.2.1 b) ∧ ∃ why : Nat, 1 ≤ why ∧ why ≤ 8 ∧ e = .returned (.int .i64 why) ∧ w.grownBy w' none) := by
  have KF := hid hF
  have KS := hid hS
  have HH := hid hH
  clear hF hS hH
  go_enter Tryz.func95, Tryz.ntmps95
  go_wp2_with fail
  have HX1 := hid (s7_new w op a b c fb tb eb)
  have KG1 := hid (World.grownBy_alloc w (.cells #[.int .u8 (op : Int), .int .u8 (a : Int), .int .u8 (b : Int), .int .u8 (c : Int), P0 fb, P0 tb, P0 eb] 184) none)
  generalize hW : w.alloc (.cells #[.int .u8 (op : Int), .int .u8 (a : Int), .int .u8 (b : Int), .int .u8 (c : Int), P0 fb, P0 tb, P0 eb] 184) = w1 at *
  have hz1 : w1.heap.size = w.heap.size + 1 := by rw [← hW]; simp
  clear hW
  go_region_held3 (fun w' => w'.cell? ⟨w.heap.size, 0, none⟩ = some (.int .u8 (op : Int)) ∧ w'.cell? ⟨w.heap.size, 1, none⟩ = some (.int .u8 (a : Int)) ∧ w'.cell? ⟨w.heap.size, 2, none⟩ = some (.int .u8 (b : Int)) ∧ w'.cell? ⟨w.heap.size, 3, none⟩ = some (.int .u8 (c : Int)) ∧ w'.cell? ⟨w.heap.size, 4, none⟩ = some (P0 fb) ∧ w'.cell? ⟨w.heap.size, 5, none⟩ = some (P0 tb) ∧ w'.cell? ⟨w.heap.size, 6, none⟩ = some (P0 eb)) (first | exact s7_of HX1.out | exact s7_of HX2.out | exact s7_of HX3.out | exact s7_of HX4.out) (first | (go_at_call 91; refine (a_any op a b c fb tb eb cb L nx rb nr back s.2.1 w1.drew (KF.out.kept (grown_drew KG1.out)).1 (KF.out.kept (grown_drew KG1.out)).2.1 ha).mono ?_; rintro e w2 ⟨rfl, hg2⟩; have KG2 : Hid (w.grownBy w2 none) := grown_trans (grown_drew KG1.out) hg2; have HX2 := hid (grown_out hg2 (show w1.drew.heap[w.heap.size]? = _ from HX1.out)); clear hg2) | (go_at_call 79; refine (b_any op a b c fb tb eb cb L nx rb nr back s.2.1 w2 (KF.out.kept KG2.out).1 (KF.out.kept KG2.out).2.1 hb).mono ?_; rintro e w3 ⟨rfl, hg3⟩; have KG3 : Hid (w.grownBy w3 none) := grown_trans KG2.out hg3; have HX3 := hid (grown_out hg3 HX2.out); clear hg3) | (go_at_call 147; refine (slot_any op a b c fb tb eb sb pb n (s.2.1 a) (s.2.1 b) kd vb s.2.2 w3 (KS.out.kept KG3.out) hn (HH.out.1 a ha) ((grown_cell KG3.out (a := ⟨eb, 26, none⟩) le).1.trans h26) (Nat.lt_of_lt_of_le le KG3.out.size)).mono ?_; rintro e w4 ⟨v, rfl, hg4, hsl⟩; have KG4 : Hid (w.grownBy w4 none) := grown_trans KG3.out hg4; have HX4 := hid (grown_out hg4 HX3.out); obtain ⟨pv, wy, rfl⟩ : ∃ (pv : Value) (wy : Int), v = .tuple #[pv, .int .i64 wy] := (by rcases hsl with ⟨_, h⟩ | ⟨_, y, _, _, h⟩; exact ⟨_, _, h⟩; exact ⟨_, _, h⟩); have HSL := hid hsl; clear hg4 hsl))

  all_goals
    rcases HSL.out with ⟨hok, he⟩ | ⟨hok, why, hw1, hw2, he⟩
    · have HOK := hid hok
      obtain ⟨o1, o2, o3, o4⟩ := id hok
      have hp : 1 ≤ (s.2.1 a).1 ∧ (s.2.1 a).1 ≤ n ∧ kd (s.2.1 a).1 = true := by
        rcases HH.out.1 a ha with h | h
        · exact absurd h o1
        · exact ⟨h.1, h.2.1, h.2.2.1⟩
      injection he with he
      injection he with he
      injection he with he1 he2
      injection he2 with he2 _
      injection he2 with _ he2
      subst he1 he2
      generalize hi : (s.2.1 b).2.toNat = i at *
      have hil : i < (s.2.2 (s.2.1 a).1).length := by omega
      have HP := hid (And.intro hp hil)
      have HI := hid hi
      obtain ⟨x0, x1, x2, x3, x4, x5, x6⟩ := s7_of HX4.out
      have lx := heap_lt HX4.out
      clear hok o1 o2 o3 o4 hp hi
      go_wp2_with fail
      refine (c_any op a b c fb tb eb cb L nx rb nr back s.2.1 w4 (KF.out.kept KG4.out).1 (KF.out.kept KG4.out).2.1 hc).mono ?_
      rintro e w5 ⟨rfl, hg5⟩
      have KG5 := hid (grown_trans KG4.out hg5)
      have KS5 := hid (KS.out.kept KG5.out)
      have hFu := KS5.out.2.2.1 _ HP.out.1.1 HP.out.1.2.1 HP.out.1.2.2
      obtain ⟨r0, z0⟩ := hFu.cells (i * 2) (by omega)
      obtain ⟨r1, z1⟩ := hFu.cells (i * 2 + 1) (by omega)
      have lv := hFu.lt
      have HR : Hid (w.grownBy ((w5.setCell ⟨vb (s.2.1 a).1, i * 2, none⟩ (.int .i64 ((s.2.1 c).1 : Int))).setCell ⟨vb (s.2.1 a).1, i * 2 + 1, none⟩ (.int .i64 (s.2.1 c).2)) (some (vb (s.2.1 a).1)) ∧ Str ((w5.setCell ⟨vb (s.2.1 a).1, i * 2, none⟩ (.int .i64 ((s.2.1 c).1 : Int))).setCell ⟨vb (s.2.1 a).1, i * 2 + 1, none⟩ (.int .i64 (s.2.1 c).2)) sb pb eb n kd vb (B.lay s.2.2 (s.2.1 a).1 ((s.2.2 (s.2.1 a).1).set i (s.2.1 c)))) :=
        ⟨grown_setCell (a := ⟨vb (s.2.1 a).1, i * 2 + 1, none⟩) (grown_setCell (a := ⟨vb (s.2.1 a).1, i * 2, none⟩) (grown_of_none KG5.out) (Or.inl rfl) _) (Or.inl rfl) _, str_put (s.2.1 c) KS5.out HP.out.1.1 HP.out.1.2.1 HP.out.1.2.2 hil⟩
      generalize regP (slots s.2.2 (s.2.1 a).1) (i * 2) = y0 at r0
      generalize regP (slots s.2.2 (s.2.1 a).1) (i * 2 + 1) = y1 at r1
      clear hg5 hFu x0 x1 x2 x3 x4 x5 x6 lx
      go_wp2_with fail
      go_ret
      exact Or.inl ⟨HOK.out, rfl, HR.out.1, by rw [HI.out]; exact HR.out.2⟩
    · injection he with he
      injection he with he
      injection he with he1 he2
      injection he2 with he2 _
      injection he2 with _ he2
      subst he1 he2
      have HOK := hid hok
      have hne0 : ¬ ((why : Int) = 0) := by omega
      clear hok
      go_wp2_with fail
      go_ret
      exact Or.inr ⟨HOK.out, why, hw1, hw2, rfl, KG4.out⟩
end Go.Proofs.YtbmjlbcaplgfmaaGreatDoor

/-
  What the closures of the table do: numbers that two numbers make.
-/
namespace Go.Proofs.YtbmjlbcaplgfmaaGreatDoor
open Go.RowKit

theorem sub_any (x y : Int) (w : World) : Calls Tryz.prog 82 #[.int .i64 x, .int .i64 y] w fun e w' => e = .returned (.int .i64 (B.wrap (x - y))) ∧ w' = w := by
  have hw : IntKind.i64.wrap (x - y) = B.wrap (x - y) := by simp [IntKind.wrap, IntKind.bits, IntKind.signed, B.wrap]; omega
  go_enter Tryz.func82, Tryz.ntmps82
  go_wp2_with fail
  go_ret
  exact ⟨by rw [← hw]; rfl, rfl⟩

set_option maxRecDepth 100000 in
set_option maxHeartbeats 2000000 in
/-- Sub. -/
theorem act3_any (op a b c fb tb eb cb L nx rb nr vb : Nat) (back : Value) (R : Nat → B.V) (ha : a < nr) (hb : b < nr) (hc : c < nr) (w : World) (hF : Fr w fb cb L nx rb nr back R) (hv : w.heap[vb]? = some (.cells #[Fv 82 #[]] 188 (0, 0))) :
    Calls Tryz.prog 140 #[stepV op a b c fb tb eb, P0 vb] w fun e w' => (((R b).1 = 0 ∧ (R c).1 = 0) ∧ e = .returned (.int .i64 0) ∧ w.grownBy w' (some rb) ∧ Fr w' fb cb L nx rb nr back (B.set R a (0, B.wrap ((R b).2 - (R c).2)))) ∨ (¬ ((R b).1 = 0 ∧ (R c).1 = 0) ∧ e = .returned (.int .i64 1) ∧ w.grownBy w' none) := by
  have KF := hid hF
  have HV := hid hv
  clear hF hv
  go_enter Tryz.func140, Tryz.ntmps140
  go_wp2_with fail
  have HX1 := hid (s7_new w op a b c fb tb eb)
  have KG1 := hid (World.grownBy_alloc w (.cells #[.int .u8 (op : Int), .int .u8 (a : Int), .int .u8 (b : Int), .int .u8 (c : Int), P0 fb, P0 tb, P0 eb] 184) none)
  refine (b_any op a b c fb tb eb cb L nx rb nr back R _ (KF.out.kept KG1.out).1 (KF.out.kept KG1.out).2.1 hb).mono ?_
  rintro e w1 ⟨rfl, hg1⟩
  have KG2 := hid (grown_trans KG1.out hg1)
  have HX2 := hid (grown_out hg1 HX1.out)
  clear hg1 HX1 KG1
  go_wp2_with fail
  refine (vnumber_any (R b) _).mono ?_
  rintro e w2 ⟨rfl, hg2⟩
  have KG3 := hid (grown_trans KG2.out hg2)
  have HX3 := hid (grown_out hg2 HX2.out)
  clear hg2 HX2 KG2
  obtain ⟨x0, x1, x2, x3, x4, x5, x6⟩ := s7_of HX3.out
  have lx := heap_lt HX3.out
  go_wp2_with fail
  refine (c_any op a b c fb tb eb cb L nx rb nr back R w2 (KF.out.kept KG3.out).1 (KF.out.kept KG3.out).2.1 hc).mono ?_
  rintro e w3 ⟨rfl, hg3⟩
  have KG4 := hid (grown_trans KG3.out hg3)
  have HX4 := hid (grown_out hg3 HX3.out)
  clear hg3 HX3 KG3 x0 x1 x2 x3 x4 x5 x6 lx
  go_wp2_with fail
  refine (vnumber_any (R c) _).mono ?_
  rintro e w4 ⟨rfl, hg4⟩
  have KG5 := hid (grown_trans KG4.out hg4)
  have HX5 := hid (grown_out hg4 HX4.out)
  clear hg4 HX4 KG4
  obtain ⟨x0, x1, x2, x3, x4, x5, x6⟩ := s7_of HX5.out
  have lx := heap_lt HX5.out
  have hv5 := grown_out KG5.out HV.out
  have v5 : w4.cell? ⟨vb, 0, none⟩ = some (Fv 82 #[]) := by simp [World.cell?, hv5]
  have lv := heap_lt hv5
  clear hv5
  by_cases h1 : (R b).1 = 0
  · by_cases h2 : (R c).1 = 0
    · have d1 : decide ((R b).1 = 0) = true := by simpa using h1
      have d2 : decide ((R c).1 = 0) = true := by simpa using h2
      simp only [d1, d2]
      have HP := hid (And.intro h1 h2)
      clear h1 h2 d1 d2
      generalize hyy : B.wrap ((R b).2 - (R c).2) = y
      have hs := sub_any (R b).2 (R c).2
      rw [hyy] at hs
      have HS := hid hs
      have HYY := hid hyy
      clear hs hyy
      go_wp2_with fail
      go_region_with (first | (go_at_call 82; refine (HS.out _).mono ?_; rintro e w5 ⟨rfl, rfl⟩) | (go_at_call 56; refine (number_any y _).mono ?_; rintro e w6 ⟨rfl, rfl⟩) | (go_at_call 138; refine (set_any op a b c fb tb eb cb L nx rb nr back R (0, y) _ (KF.out.kept (by repeat (first | exact KG5.out | refine grown_drew ?_ | refine grown_alloc ?_ _))).1 (KF.out.kept (by repeat (first | exact KG5.out | refine grown_drew ?_ | refine grown_alloc ?_ _))).2.1 ha).mono ?_; rintro e w7 ⟨rfl, hg7, hf7⟩))
      all_goals
        have hg : w.grownBy w7 (some rb) := grown_trans (by repeat (first | exact grown_of_none KG5.out | refine grown_drew ?_ | refine grown_alloc ?_ _)) hg7
        have HH := hid (And.intro hg (And.intro (grown_heap hg KF.out.1 (by intro e; injection e with e; exact KF.out.2.2 e)) hf7))
        clear hg hg7 hf7
        go_wp2_with fail
        go_ret
        exact Or.inl ⟨HP.out, rfl, HH.out.1, HH.out.2.1, by rw [HYY.out]; exact HH.out.2.2, KF.out.2.2⟩
    · have d1 : decide ((R b).1 = 0) = true := by simpa using h1
      have d2 : decide ((R c).1 = 0) = false := by simpa using h2
      simp only [d1, d2]
      have HP := hid (show ¬ ((R b).1 = 0 ∧ (R c).1 = 0) from fun h => h2 h.2)
      clear h1 h2 d1 d2
      go_wp2_with fail
      go_ret
      exact Or.inr ⟨HP.out, rfl, KG5.out⟩
  · have d1 : decide ((R b).1 = 0) = false := by simpa using h1
    simp only [d1]
    have HP := hid (show ¬ ((R b).1 = 0 ∧ (R c).1 = 0) from fun h => h1 h.1)
    clear h1 d1
    go_wp2_with fail
    go_ret
    exact Or.inr ⟨HP.out, rfl, KG5.out⟩
end Go.Proofs.YtbmjlbcaplgfmaaGreatDoor

/-
  What the closures of the table do: those that go on elsewhere.
-/
namespace Go.Proofs.YtbmjlbcaplgfmaaGreatDoor
open Go.RowKit

theorem true_any (op a b c fb tb eb : Nat) (w : World) : Calls Tryz.prog 89 #[stepV op a b c fb tb eb] w fun e w' => e = .returned (.bool true) ∧ w.grownBy w' none := by
  go_enter Tryz.func89, Tryz.ntmps89
  go_wp2_with fail
  go_ret
  exact ⟨rfl, World.grownBy_alloc _ _ _⟩

set_option maxRecDepth 100000 in
theorem zero_any (op a b c fb tb eb cb L nx rb nr : Nat) (back : Value) (R : Nat → B.V) (ha : a < nr) (w : World) (hF : Fr w fb cb L nx rb nr back R) : Calls Tryz.prog 90 #[stepV op a b c fb tb eb] w fun e w' => e = .returned (.bool (decide (R a = (0, 0)))) ∧ w.grownBy w' none := by
  have KF := hid hF
  clear hF
  have heq := eqV (R a) (0, 0)
  generalize decide (R a = (0, 0)) = d at *
  go_enter Tryz.func90, Tryz.ntmps90
  go_wp2_with fail
  refine (a_any op a b c fb tb eb cb L nx rb nr back R _ (KF.out.kept (World.grownBy_alloc _ _ _)).1 (KF.out.kept (World.grownBy_alloc _ _ _)).2.1 ha).mono ?_
  rintro e w1 ⟨rfl, hg1⟩
  have KG1 := hid (grown_trans (World.grownBy_alloc w _ none) hg1)
  clear hg1
  go_wp2_with fail
  refine (number_any 0 _).mono ?_
  rintro e w2 ⟨rfl, rfl⟩
  go_wp2_with fail
  go_ret
  exact ⟨rfl, grown_alloc KG1.out _⟩


set_option maxRecDepth 100000 in
set_option maxHeartbeats 2000000 in
theorem goes89_any (op a b c fb tb eb cb L nx rb nr vb : Nat) (back : Value) (R : Nat → B.V) (d : Bool) (y : Nat) (hy : Hid (y = if d = true then 256 * b + c else nx)) (hb : b < 256) (hc : c < 256) (w : World) (hF : Fr w fb cb L nx rb nr back R) (hv : w.cell? ⟨vb, 0, none⟩ = some (Fv 89 #[])) (hvb : vb < w.heap.size)
    (hn : Hid (∀ w', w.grownBy w' none → Calls Tryz.prog 89 #[stepV op a b c fb tb eb] w' fun e w'' => e = .returned (.bool d) ∧ w'.grownBy w'' none)) :
    Calls Tryz.prog 142 #[stepV op a b c fb tb eb, P0 vb] w fun e w' => e = .returned (.tuple #[]) ∧ w.grownBy w' (some fb) ∧ Fr w' fb cb L y rb nr back R := by
  have KF := hid hF
  clear hF
  have ht := target_any op a b c hb hc
  go_enter Tryz.func142, Tryz.ntmps142
  go_wp2_with fail
  refine (hn.out _ (World.grownBy_alloc _ _ _)).mono ?_
  rintro e w1 ⟨rfl, hg1⟩
  have KG1 := hid (grown_trans (World.grownBy_alloc w _ none) hg1)
  have HX1 := hid (grown_out hg1 (s7_new w op a b c fb tb eb))
  clear hg1
  have HF1 := hid (KF.out.kept KG1.out)
  cases d
  · have hy' : y = nx := by have := hy.out; simpa using this
    subst hy'
    go_wp2_with fail
    go_end0
    exact ⟨rfl, grown_of_none KG1.out, HF1.out⟩
  · have hy' : 256 * b + c = y := by have := hy.out; simpa using this.symm
    rw [hy'] at ht
    clear hy hy'
    have HT := hid ht
    clear ht
    obtain ⟨x0, x1, x2, x3, x4, x5, x6⟩ := s7_of HX1.out
    have lx := heap_lt HX1.out
    go_wp2_with fail
    go_region_with (go_at_call 143; refine (HT.out w1.drew).mono ?_; rintro e w2 ⟨rfl, hg2'⟩; have hg2 : w1.grownBy w2 none := ⟨hg2'.os, hg2'.tape, hg2'.output, hg2'.size, hg2'.block⟩; clear hg2'; have HF2 := hid (HF1.out.kept hg2); have HG2 := hid (grown_trans KG1.out hg2); obtain ⟨x0, x1, x2, x3, x4, x5, x6⟩ := s7_of (grown_out hg2 HX1.out); obtain ⟨_, f1, _, _, z1⟩ := frm_cells HF2.out.1; have lf := heap_lt HF2.out.1; clear hg2)
    all_goals
      go_wp2_with fail
      go_end0
      refine ⟨rfl, grown_setCell (grown_of_none HG2.out) (Or.inl rfl) _, frm_next HF2.out.1 y, HF2.out.2.1.off (fun e => HF2.out.2.2 e.symm), HF2.out.2.2⟩

set_option maxRecDepth 100000 in
theorem actj89_any (op a b c fb tb eb cb L nx rb nr wb vb : Nat) (back : Value) (R : Nat → B.V) (d : Bool) (y : Nat) (hy : Hid (y = if d = true then 256 * b + c else nx)) (hb : b < 256) (hc : c < 256) (w : World) (hF : Fr w fb cb L nx rb nr back R) (hw : w.cell? ⟨wb, 0, none⟩ = some (Fv 142 #[P0 vb])) (hv : w.cell? ⟨vb, 0, none⟩ = some (Fv 89 #[])) (hwb : wb < w.heap.size) (hvb : vb < w.heap.size)
    (hn : Hid (∀ w', w.grownBy w' none → Calls Tryz.prog 89 #[stepV op a b c fb tb eb] w' fun e w'' => e = .returned (.bool d) ∧ w'.grownBy w'' none)) :
    Calls Tryz.prog 150 #[stepV op a b c fb tb eb, P0 wb] w fun e w' => e = .returned (.int .i64 0) ∧ w.grownBy w' (some fb) ∧ Fr w' fb cb L y rb nr back R := by
  have KF := hid hF
  clear hF
  go_enter Tryz.func150, Tryz.ntmps150
  go_wp2_with fail
  refine (goes89_any op a b c fb tb eb cb L nx rb nr vb back R d y hy hb hc _ (KF.out.kept (World.grownBy_alloc _ _ _)) (by simp [go_sem, hvb, hv]) (by simp; omega) (fun w' hg => hn.out w' (grown_trans (World.grownBy_alloc _ _ _) hg))).mono ?_
  rintro e w1 ⟨rfl, hg1, hF1⟩
  have KF1 := hid hF1
  have KG1 : Hid (w.grownBy w1 (some fb)) := grown_trans (World.grownBy_alloc _ _ _) hg1
  clear hF1 hg1
  go_wp2_with fail
  go_ret
  exact ⟨rfl, KG1.out, KF1.out⟩

set_option maxRecDepth 100000 in
set_option maxHeartbeats 2000000 in
theorem goes90_any (op a b c fb tb eb cb L nx rb nr vb : Nat) (back : Value) (R : Nat → B.V) (d : Bool) (y : Nat) (hy : Hid (y = if d = true then 256 * b + c else nx)) (hb : b < 256) (hc : c < 256) (w : World) (hF : Fr w fb cb L nx rb nr back R) (hv : w.cell? ⟨vb, 0, none⟩ = some (Fv 90 #[])) (hvb : vb < w.heap.size)
    (hn : Hid (∀ w', w.grownBy w' none → Calls Tryz.prog 90 #[stepV op a b c fb tb eb] w' fun e w'' => e = .returned (.bool d) ∧ w'.grownBy w'' none)) :
    Calls Tryz.prog 142 #[stepV op a b c fb tb eb, P0 vb] w fun e w' => e = .returned (.tuple #[]) ∧ w.grownBy w' (some fb) ∧ Fr w' fb cb L y rb nr back R := by
  have KF := hid hF
  clear hF
  have ht := target_any op a b c hb hc
  go_enter Tryz.func142, Tryz.ntmps142
  go_wp2_with fail
  refine (hn.out _ (World.grownBy_alloc _ _ _)).mono ?_
  rintro e w1 ⟨rfl, hg1⟩
  have KG1 := hid (grown_trans (World.grownBy_alloc w _ none) hg1)
  have HX1 := hid (grown_out hg1 (s7_new w op a b c fb tb eb))
  clear hg1
  have HF1 := hid (KF.out.kept KG1.out)
  cases d
  · have hy' : y = nx := by have := hy.out; simpa using this
    subst hy'
    go_wp2_with fail
    go_end0
    exact ⟨rfl, grown_of_none KG1.out, HF1.out⟩
  · have hy' : 256 * b + c = y := by have := hy.out; simpa using this.symm
    rw [hy'] at ht
    clear hy hy'
    have HT := hid ht
    clear ht
    obtain ⟨x0, x1, x2, x3, x4, x5, x6⟩ := s7_of HX1.out
    have lx := heap_lt HX1.out
    go_wp2_with fail
    go_region_with (go_at_call 143; refine (HT.out w1.drew).mono ?_; rintro e w2 ⟨rfl, hg2'⟩; have hg2 : w1.grownBy w2 none := ⟨hg2'.os, hg2'.tape, hg2'.output, hg2'.size, hg2'.block⟩; clear hg2'; have HF2 := hid (HF1.out.kept hg2); have HG2 := hid (grown_trans KG1.out hg2); obtain ⟨x0, x1, x2, x3, x4, x5, x6⟩ := s7_of (grown_out hg2 HX1.out); obtain ⟨_, f1, _, _, z1⟩ := frm_cells HF2.out.1; have lf := heap_lt HF2.out.1; clear hg2)
    all_goals
      go_wp2_with fail
      go_end0
      refine ⟨rfl, grown_setCell (grown_of_none HG2.out) (Or.inl rfl) _, frm_next HF2.out.1 y, HF2.out.2.1.off (fun e => HF2.out.2.2 e.symm), HF2.out.2.2⟩

set_option maxRecDepth 100000 in
theorem actj90_any (op a b c fb tb eb cb L nx rb nr wb vb : Nat) (back : Value) (R : Nat → B.V) (d : Bool) (y : Nat) (hy : Hid (y = if d = true then 256 * b + c else nx)) (hb : b < 256) (hc : c < 256) (w : World) (hF : Fr w fb cb L nx rb nr back R) (hw : w.cell? ⟨wb, 0, none⟩ = some (Fv 142 #[P0 vb])) (hv : w.cell? ⟨vb, 0, none⟩ = some (Fv 90 #[])) (hwb : wb < w.heap.size) (hvb : vb < w.heap.size)
    (hn : Hid (∀ w', w.grownBy w' none → Calls Tryz.prog 90 #[stepV op a b c fb tb eb] w' fun e w'' => e = .returned (.bool d) ∧ w'.grownBy w'' none)) :
    Calls Tryz.prog 150 #[stepV op a b c fb tb eb, P0 wb] w fun e w' => e = .returned (.int .i64 0) ∧ w.grownBy w' (some fb) ∧ Fr w' fb cb L y rb nr back R := by
  have KF := hid hF
  clear hF
  go_enter Tryz.func150, Tryz.ntmps150
  go_wp2_with fail
  refine (goes90_any op a b c fb tb eb cb L nx rb nr vb back R d y hy hb hc _ (KF.out.kept (World.grownBy_alloc _ _ _)) (by simp [go_sem, hvb, hv]) (by simp; omega) (fun w' hg => hn.out w' (grown_trans (World.grownBy_alloc _ _ _) hg))).mono ?_
  rintro e w1 ⟨rfl, hg1, hF1⟩
  have KF1 := hid hF1
  have KG1 : Hid (w.grownBy w1 (some fb)) := grown_trans (World.grownBy_alloc _ _ _) hg1
  clear hF1 hg1
  go_wp2_with fail
  go_ret
  exact ⟨rfl, KG1.out, KF1.out⟩

end Go.Proofs.YtbmjlbcaplgfmaaGreatDoor
