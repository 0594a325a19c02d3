/- The host machine as numbers: its state, a step, a run; how it lies in memory; what a call turns of memory. -/
import Derived.Test.YtbalnlodkiejcaaDoorC4
import Derived.Test.YtbalnlodkiejcaaDoorH0
namespace Go.Proofs.YtbalnlodkiejcaaDoor
open Go.RowKit
set_option linter.unusedVariables false
set_option linter.unusedSimpArgs false
set_option linter.unusedSectionVars false

/-- Registers, the place, what Why tells, bytes. -/
structure St where
  x : Int → Int
  pc : Int
  why : Int
  m : Int → Int
structure St.ok (s : St) : Prop where
  x : ∀ i, 0 ≤ s.x i ∧ s.x i ≤ 4294967295
  x0 : s.x 0 = 0
  pc : 0 ≤ s.pc ∧ s.pc ≤ 4294967295
  why : 0 ≤ s.why ∧ s.why ≤ 4294967295
  m : ∀ i, 0 ≤ s.m i ∧ s.m i ≤ 255

def setX (x : Int → Int) (i v : Int) : Int → Int := fun j => if j = i ∧ 0 < i ∧ i < 32 then v else x j
def storeM (m : Int → Int) (at_ n v : Int) : Int → Int := fun k => if at_ ≤ k ∧ k < at_ + n then v / 256 ^ (k - at_).toNat % 256 else m k
def bytesM (m : Int → Int) (at_ : Int) (n : Nat) : List Int := (List.range n).map fun (i : Nat) => m (at_ + (i : Int))
def wordM (m : Int → Int) (at_ n : Int) : Int := wordS (bytesM m at_ n.toNat)
def fitsL (at_ n : Int) : Bool := (n == 1 || n == 2 || n == 4) && decide (at_ % n = 0) && decide (at_ ≤ 32768 - n)

def sizeL (op : Int) : Int := if op = 11 ∨ op = 14 ∨ op = 16 then 1 else if op = 12 ∨ op = 15 ∨ op = 17 then 2 else 4
def widenL (op v : Int) : Int := if op = 11 then IntKind.i8.wrap v % 4294967296 else if op = 12 then sgn 16 v % 4294967296 else v
def takenL (op a b : Int) : Bool :=
  if op = 5 then a == b else if op = 6 then a != b else if op = 7 then decide (wrap32 a < wrap32 b) else if op = 8 then decide (wrap32 b ≤ wrap32 a)
  else if op = 9 then decide (a < b) else decide (b ≤ a)
def oneL (c : Bool) : Int := if c then 1 else 0
def quotL (op a b : Int) : Int :=
  if op = 42 then (if b = 0 then 4294967295 else Int.tdiv (wrap32 a) (wrap32 b) % 4294967296)
  else if op = 43 then (if b = 0 then 4294967295 else a / b)
  else if op = 44 then (if b = 0 then a else Int.tmod (wrap32 a) (wrap32 b) % 4294967296)
  else (if b = 0 then a else a % b)
def prodL (op a b : Int) : Int :=
  if op = 38 then a * b % 4294967296 else if op = 39 then wrap32 a * wrap32 b / 4294967296 % 4294967296
  else if op = 40 then (a * b / 4294967296 - (if wrap32 a < 0 then b else 0)) % 4294967296 else a * b / 4294967296
def aluL (op a b : Int) : Int :=
  if op = 1 then b else if op = 19 ∨ op = 28 then (a + b) % 4294967296 else if op = 29 then (a - b) % 4294967296
  else if op = 20 ∨ op = 31 then oneL (decide (wrap32 a < wrap32 b)) else if op = 21 ∨ op = 32 then oneL (decide (a < b))
  else if op = 22 ∨ op = 33 then bits .xor .u32 a b else if op = 23 ∨ op = 36 then bits .or .u32 a b else if op = 24 ∨ op = 37 then bits .and .u32 a b
  else if op = 25 ∨ op = 30 then a * 2 ^ (b % 32).toNat % 4294967296 else if op = 26 ∨ op = 34 then a / 2 ^ (b % 32).toNat
  else if op = 27 ∨ op = 35 then wrap32 a / 2 ^ (b % 32).toNat % 4294967296
  else if op = 38 ∨ op = 39 ∨ op = 40 ∨ op = 41 then prodL op a b else quotL op a b

/-- What a word does: it goes on (what is told, the state behind it), or it stops (the kind, the place). -/
inductive Out where
  | go (k : Int) (s : St)
  | halt (k at_ : Int)
def jumpL (s : St) (d to : Int) : Out := if to % 4 = 0 then .go 0 { s with x := setX s.x d ((s.pc + 4) % 4294967296), pc := to } else .halt 5 to
def doL (s : St) (op d a b i : Int) : Out :=
  if op = 46 then .go 1 { s with pc := (s.pc + 4) % 4294967296 }
  else if op = 47 then .go 2 { s with pc := (s.pc + 4) % 4294967296 }
  else if op = 3 then jumpL s d ((s.pc + i) % 4294967296)
  else if op = 4 then jumpL s d ((s.x a + i) % 4294967296 / 2 * 2)
  else if 5 ≤ op ∧ op ≤ 10 then
    (if takenL op (s.x a) (s.x b) = true then (if (s.pc + i) % 4294967296 % 4 = 0 then .go 0 { s with pc := (s.pc + i) % 4294967296 } else .halt 5 ((s.pc + i) % 4294967296))
      else .go 0 { s with pc := (s.pc + 4) % 4294967296 })
  else if 11 ≤ op ∧ op ≤ 15 then
    (if fitsL ((s.x a + i) % 4294967296) (sizeL op) = true then .go 0 { s with x := setX s.x d (widenL op (wordM s.m ((s.x a + i) % 4294967296) (sizeL op))), pc := (s.pc + 4) % 4294967296 }
      else .halt 3 ((s.x a + i) % 4294967296))
  else if 16 ≤ op ∧ op ≤ 18 then
    (if fitsL ((s.x a + i) % 4294967296) (sizeL op) = true then .go 0 { s with m := storeM s.m ((s.x a + i) % 4294967296) (sizeL op) (s.x b), pc := (s.pc + 4) % 4294967296 }
      else .halt 4 ((s.x a + i) % 4294967296))
  else if op = 2 then .go 0 { s with x := setX s.x d ((s.pc + i) % 4294967296), pc := (s.pc + 4) % 4294967296 }
  else .go 0 { s with x := setX s.x d (aluL op (s.x a) ((s.x b + i) % 4294967296)), pc := (s.pc + 4) % 4294967296 }
def Out.told (s : St) : Out → Int × St
  | .go k s' => (k, s')
  | .halt k at_ => (k, { s with why := at_ })
/-- A step. -/
def stepL (s : St) : Int × St :=
  if fitsL s.pc 4 = true then
    (match decL (wordM s.m s.pc 4) with
    | none => (6, s)
    | some op => (doL s op (dL (formN op) (wordM s.m s.pc 4)) (sL (formN op) (wordM s.m s.pc 4)) (tL (formN op) (wordM s.m s.pc 4)) (immL (formN op) (wordM s.m s.pc 4))).told s)
  else (5, { s with why := s.pc })
/-- So many steps at most, n done: what the last one told, how many there were, the state. -/
def runL : Nat → Nat → St → Int × Nat × St
  | 0, n, s => (0, n, s)
  | k + 1, n, s => if (stepL s).1 = 0 then runL k (n + 1) (stepL s).2 else ((stepL s).1, n + 1, (stepL s).2)

/-! ### What a call turns of memory -/

/-- Below n nothing has turned but the blocks in S. -/
structure But (S : List Nat) (n : Nat) (w w' : World) : Prop where
  os : w'.os = w.os
  tape : w'.tape = w.tape
  output : w'.output = w.output
  size : w.heap.size ≤ w'.heap.size
  block : ∀ k, k < n → k ∉ S → w'.heap[k]? = w.heap[k]?
theorem But.of {n : Nat} {w w' : World} (h : Below n w w') (S : List Nat) : But S n w w' := ⟨h.os, h.tape, h.output, h.size, fun k hk _ => h.block k hk⟩
theorem But.refl (S : List Nat) (n : Nat) (w : World) : But S n w w := But.of (Below.refl n w) S
theorem But.trans {S : List Nat} {n : Nat} {a b c : World} (h : But S n a b) (k : But S n b c) : But S n a c :=
  ⟨k.os.trans h.os, k.tape.trans h.tape, k.output.trans h.output, Nat.le_trans h.size k.size, fun i hi hs => (k.block i hi hs).trans (h.block i hi hs)⟩
theorem But.mono {S S' : List Nat} {n n' : Nat} {w w' : World} (h : But S n w w') (hn : n' ≤ n) (hS : ∀ k, k ∈ S → k ∈ S' ∨ n' ≤ k) : But S' n' w w' :=
  ⟨h.os, h.tape, h.output, h.size, fun k hk hs => h.block k (by omega) (fun hm => by rcases hS k hm with h1 | h1; exact hs h1; omega)⟩
theorem But.below {S : List Nat} {n n' : Nat} {w w' : World} (h : But S n w w') (hn : n' ≤ n) (hS : ∀ k, k ∈ S → n' ≤ k) : Below n' w w' :=
  ⟨h.os, h.tape, h.output, h.size, fun k hk => h.block k (by omega) (fun hm => by have := hS k hm; omega)⟩
theorem But.setCell {S : List Nat} {n : Nat} {a w : World} (h : But S n a w) {p : Addr} (hp : p.block ∈ S) (u : Value) : But S n a (w.setCell p u) :=
  h.trans ⟨rfl, rfl, rfl, by simp [World.setCell], fun k hk hs => Below.heap_setCell _ _ _ _ (fun e => hs (e ▸ hp))⟩
theorem But.alloc {S : List Nat} {n : Nat} {a w : World} (h : But S n a w) (hn : n ≤ w.heap.size) (o : Obj) : But S n a (w.alloc o) :=
  h.trans (But.of ((Below.refl n w).alloc hn o) S)
theorem But.setRow {S : List Nat} {n : Nat} {a w : World} (h : But S n a w) {g : Nat} (hg : g ∈ S) (cs : Array Value) : But S n a (w.setRow g cs) :=
  h.trans ⟨rfl, rfl, rfl, by simp [World.setRow], fun k hk hs => setRow_other w g k cs (fun e => hs (e ▸ hg))⟩
theorem But.drew {S : List Nat} {n : Nat} {a w : World} (h : But S n a w) : But S n a w.drew := ⟨h.os, h.tape, h.output, h.size, h.block⟩
/-- Behind a call, what was there before is there still. -/
theorem below_but {S : List Nat} {n : Nat} {a b c : World} (h : Below n a b) (k : But S b.heap.size b c) (hn : n ≤ b.heap.size) (hS : ∀ k, k ∈ S → n ≤ k) : Below n a c :=
  h.trans (k.below hn hS)
theorem Tabs.but {S : List Nat} {w w' : World} (tabs : Tabs w) (h : But S w.heap.size w w') (hS : ∀ k, k ∈ S → 2 ≤ k) : Tabs w' := by
  have hb : Below 2 w w' := h.below tabs.1 hS
  obtain ⟨h0, h1, h2, h3⟩ := tabs
  refine ⟨Nat.le_trans h0 h.size, fun k hk => ?_, fun f hf => ?_, ?_⟩
  · obtain ⟨k1, k2, k3⟩ := h1 k hk
    rw [hb.cell (show _ < 2 from by simp), hb.cell (show _ < 2 from by simp), hb.cell (show _ < 2 from by simp)]
    exact ⟨k1, k2, k3⟩
  · rw [hb.cell (show _ < 2 from by simp)]; exact h2 f hf
  · trivial

/-! ### How the program's host lies in memory -/

structure Cells (cs : Array Value) (s : St) : Prop where
  size : cs.size = 32802
  x : ∀ i : Nat, i < 32 → cs[i]? = some (.int .u32 (s.x i))
  pc : cs[32]? = some (.int .u32 s.pc)
  why : cs[33]? = some (.int .u32 s.why)
  m : ∀ i : Nat, i < 32768 → cs[34 + i]? = some (.int .u8 (s.m i))
theorem heap_set {w : World} {B i : Nat} {cs : Array Value} {t : TypeId} {v : Value} (h : w.heap[B]? = some (.cells cs t (0, 0))) : (w.setCell ⟨B, i, none⟩ v).heap[B]? = some (.cells (cs.setIfInBounds i v) t (0, 0)) := by
  simp only [World.setCell, Array.getElem?_modify, h]; simp
theorem set_at {cs : Array Value} {i j : Nat} {v : Value} (hi : i < cs.size) : (cs.setIfInBounds i v)[j]? = if i = j then some v else cs[j]? := by
  rw [Array.getElem?_setIfInBounds]; simp [hi]
theorem ok_pc {s : St} (h : s.ok) {v : Int} (hv : 0 ≤ v ∧ v ≤ 4294967295) : ({ s with pc := v } : St).ok := ⟨h.x, h.x0, hv, h.why, h.m⟩
theorem ok_why {s : St} (h : s.ok) {v : Int} (hv : 0 ≤ v ∧ v ≤ 4294967295) : ({ s with why := v } : St).ok := ⟨h.x, h.x0, h.pc, hv, h.m⟩
theorem setX_bd {x : Int → Int} {i v : Int} (hx : ∀ j, 0 ≤ x j ∧ x j ≤ 4294967295) (hv : 0 ≤ v ∧ v ≤ 4294967295) (j : Int) : 0 ≤ setX x i v j ∧ setX x i v j ≤ 4294967295 := by
  unfold setX; split
  · exact hv
  · exact hx j
theorem setX_0 {x : Int → Int} {i v : Int} (h : x 0 = 0) : setX x i v 0 = 0 := by unfold setX; rw [if_neg (by omega)]; exact h
theorem ok_x {s : St} (h : s.ok) (i : Int) {v : Int} (hv : 0 ≤ v ∧ v ≤ 4294967295) : ({ s with x := setX s.x i v } : St).ok := ⟨setX_bd h.x hv, setX_0 h.x0, h.pc, h.why, h.m⟩
theorem storeM_bd {m : Int → Int} {at_ n v : Int} (hm : ∀ j, 0 ≤ m j ∧ m j ≤ 255) (j : Int) : 0 ≤ storeM m at_ n v j ∧ storeM m at_ n v j ≤ 255 := by
  unfold storeM; split
  · omega
  · exact hm j
theorem ok_m {s : St} (h : s.ok) (a n v : Int) : ({ s with m := storeM s.m a n v } : St).ok := ⟨h.x, h.x0, h.pc, h.why, storeM_bd h.m⟩
end Go.Proofs.YtbalnlodkiejcaaDoor
