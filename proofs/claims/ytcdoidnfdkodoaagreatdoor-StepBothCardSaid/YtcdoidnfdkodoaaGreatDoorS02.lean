import Derived.Test.YtcdoidnfdkodoaaGreatDoorS00
import Derived.Test.YtcdoidnfdkodoaaGreatDoorRows
import Derived.WalkKit
import Derived.ProofKit
namespace Go.Proofs.YtcdoidnfdkodoaaGreatDoor
open Go.RowKit
set_option linter.unusedVariables false
set_option linter.unusedSimpArgs false
set_option linter.unusedSectionVars false
structure Mm where
  r : Nat → Int
  b : Nat → Int
structure Mm.ok (m : Mm) : Prop where
  r : ∀ i, 0 ≤ m.r i ∧ m.r i ≤ 7
  b : ∀ i, 0 ≤ m.b i ∧ m.b i ≤ 255
  out : ∀ i, 64 ≤ i → m.r i = 0
  z : ∀ i, m.r (i / 256) = 0 → m.b i = 0
def Mm.new : Mm := ⟨fun _ => 0, fun _ => 0⟩
theorem new_okM : Mm.new.ok := ⟨fun _ => by simp [Mm.new], fun _ => by simp [Mm.new], fun _ _ => rfl, fun _ _ => rfl⟩
def setR (m : Mm) (p n : Nat) (v : Int) : Mm := ⟨fun i => if p ≤ i ∧ i < p + n then v else m.r i, m.b⟩
def putB (m : Mm) (a : Nat) (zs : List Int) : Mm := ⟨m.r, fun i => if a ≤ i ∧ i < a + zs.length then zs.getD (i - a) 0 else m.b i⟩
def thereL (p n : Int) : Bool := decide (0 ≤ p) && decide (p < 64) && decide (0 < n) && decide (n ≤ 64 - p)
def allL (m : Mm) (q : Bool) (p : Nat) : Nat → Bool
  | 0 => true
  | n + 1 => allL m q p n && (q == (m.r (p + n) != 0))
def canL (m : Mm) (p n : Int) (q : Bool) : Bool := thereL p n && allL m q p.toNat n.toNat
def areL (v : Int) : Bool := decide (0 < v) && decide (v ≤ 7)
def mapE (m : Mm) (p n v : Int) : Bool := areL v && canL m p n false
def mapS (m : Mm) (p n v : Int) : Mm := if mapE m p n v = true then setR m p.toNat n.toNat v else m
def errM (b : Bool) : Int := if b then 0 else 61
theorem there_iff {p n : Int} : thereL p n = true ↔ 0 ≤ p ∧ p < 64 ∧ 0 < n ∧ n ≤ 64 - p := by unfold thereL; simp; omega
theorem are_iff {v : Int} : areL v = true ↔ 0 < v ∧ v ≤ 7 := by unfold areL; simp
theorem all_at {m : Mm} {q : Bool} {p n : Nat} (h : allL m q p n = true) (i : Nat) (hi : i < n) : q = (m.r (p + i) != 0) := by
  induction n with
  | zero => omega
  | succ n ih =>
    simp only [allL, Bool.and_eq_true, beq_iff_eq] at h
    by_cases e : i = n
    · subst e; exact h.2
    · exact ih h.1 (by omega)
theorem all_no {m : Mm} {q : Bool} {p n : Nat} (i : Nat) (hi : i < n) (h : ¬ q = (m.r (p + i) != 0)) : allL m q p n = false := by
  cases he : allL m q p n with
  | false => rfl
  | true => exact absurd (all_at he i hi) h
theorem setR_zero (m : Mm) (p : Nat) (v : Int) : setR m p 0 v = m := by unfold setR; congr 1; funext i; rw [if_neg (by omega)]
theorem can_iff {m : Mm} {p n : Int} {q : Bool} : canL m p n q = true ↔ (0 ≤ p ∧ p < 64 ∧ 0 < n ∧ n ≤ 64 - p) ∧ allL m q p.toNat n.toNat = true := by
  unfold canL; rw [Bool.and_eq_true, there_iff]
theorem mapS_ok {m : Mm} (ok : m.ok) (p n v : Int) : (mapS m p n v).ok := by
  unfold mapS
  by_cases h : mapE m p n v = true
  · rw [if_pos h]
    unfold mapE at h
    rw [Bool.and_eq_true, are_iff, can_iff] at h
    obtain ⟨hv, ht, ha⟩ := h
    refine ⟨fun i => ?_, ok.b, fun i hi => ?_, fun i hi => ?_⟩
    · dsimp only [setR]; split
      · omega
      · exact ok.r i
    · dsimp only [setR]; rw [if_neg (by omega)]; exact ok.out i hi
    · refine ok.z i ?_
      dsimp only [setR] at hi
      split at hi
      · omega
      · exact hi
  · rw [if_neg h]; exact ok
/-! ### Bytes -/
def lackP (m : Mm) (a : Int) (right : Int) (i : Nat) : Bool := decide (m.r (((a + i) % 4294967296 / 256).toNat) / right % 2 = 0)
def lackL (m : Mm) (a right : Int) : Nat → Option Nat
  | 0 => none
  | n + 1 => match lackL m a right n with
    | some i => some i
    | none => if lackP m a right n = true then some n else none
theorem lack_none {m : Mm} {a right : Int} {n : Nat} (h : lackL m a right n = none) (i : Nat) (hi : i < n) : lackP m a right i = false := by
  induction n with
  | zero => omega
  | succ n ih =>
    unfold lackL at h
    split at h
    · cases h
    · rename_i h0
      split at h
      · cases h
      · rename_i h1
        by_cases e : i = n
        · subst e; simpa using h1
        · exact ih h0 (by omega)
theorem lack_some {m : Mm} {a right : Int} {n k : Nat} (h : lackL m a right n = some k) : k < n ∧ lackP m a right k = true ∧ ∀ i, i < k → lackP m a right i = false := by
  induction n with
  | zero => cases h
  | succ n ih =>
    unfold lackL at h
    split at h
    · rename_i j h0
      cases h
      obtain ⟨h1, h2, h3⟩ := ih h0
      exact ⟨by omega, h2, h3⟩
    · rename_i h0
      split at h
      · rename_i h1
        cases h
        exact ⟨by omega, h1, fun i hi => lack_none h0 i hi⟩
      · cases h
theorem lack_in {m : Mm} (ok : m.ok) {a right : Int} {i : Nat} (h : lackP m a right i = false) : (a + i) % 4294967296 < 16384 := by
  unfold lackP at h
  by_cases h2 : (a + i) % 4294967296 < 16384
  · exact h2
  · rw [ok.out _ (by omega), Int.zero_ediv] at h
    simp at h
theorem lack_end {m : Mm} (ok : m.ok) {a right : Int} {n : Nat} (ha : 0 ≤ a ∧ a ≤ 4294967295) (hn : n ≤ 4) (h : lackL m a right n = none) (h0 : 0 < n) : a + n ≤ 16384 := by
  have h1 := lack_in ok (lack_none h 0 h0)
  have h2 := lack_in ok (lack_none h (n - 1) (by omega))
  omega
def readL (m : Mm) (a : Nat) : Nat → Int
  | 0 => 0
  | n + 1 => readL m a n + m.b (a + n) * 2 ^ (8 * n)
theorem read_bd {m : Mm} (ok : m.ok) (a n : Nat) : 0 ≤ readL m a n ∧ readL m a n < 2 ^ (8 * n) := by
  induction n with
  | zero => simp [readL]
  | succ n ih =>
    have hb := ok.b (a + n)
    have hp : (0 : Int) < 2 ^ (8 * n) := Int.pow_pos (by decide)
    have e : (2 : Int) ^ (8 * (n + 1)) = 256 * 2 ^ (8 * n) := by rw [show 8 * (n + 1) = 8 * n + 8 by omega, Int.pow_add]; omega
    unfold readL
    rw [e]
    generalize (2 : Int) ^ (8 * n) = P at *
    have h1 : m.b (a + n) * P ≤ 255 * P := Int.mul_le_mul_of_nonneg_right hb.2 (by omega)
    have h2 : 0 ≤ m.b (a + n) * P := Int.mul_nonneg hb.1 (by omega)
    omega
def bytesV (v : Int) (n : Nat) : List Int := (List.range n).map fun i => v / 2 ^ (8 * i) % 256
theorem bytesV_bd (v : Int) (n : Nat) : ∀ z ∈ bytesV v n, 0 ≤ z ∧ z ≤ 255 := by
  intro z hz
  simp only [bytesV, List.mem_map] at hz
  obtain ⟨i, -, rfl⟩ := hz
  omega
theorem bytesV_len (v : Int) (n : Nat) : (bytesV v n).length = n := by simp [bytesV]
theorem bytesV_at (v : Int) {n i : Nat} (hi : i < n) : (bytesV v n).getD i 0 = v / 2 ^ (8 * i) % 256 := by
  simp [bytesV, List.getD_eq_getElem?_getD, hi]
theorem putB_snoc (m : Mm) (a : Nat) (v : Int) (n : Nat) : putB m a (bytesV v (n + 1)) = ⟨m.r, fun i => if i = a + n then v / 2 ^ (8 * n) % 256 else (putB m a (bytesV v n)).b i⟩ := by
  unfold putB
  simp only [bytesV_len]
  congr 1
  funext i
  by_cases h1 : i = a + n
  · subst h1
    rw [if_pos (by omega), if_pos rfl, bytesV_at _ (by omega), show a + n - a = n by omega]
  · rw [if_neg h1]
    by_cases h2 : a ≤ i ∧ i < a + n
    · rw [if_pos (by omega), if_pos h2, bytesV_at _ (by omega), bytesV_at _ (by omega)]
    · rw [if_neg (by omega), if_neg h2]
theorem putB_nil (m : Mm) (a : Nat) : putB m a [] = m := by unfold putB; congr 1; funext i; rw [if_neg (by simp)]
theorem putB_ok {m : Mm} (ok : m.ok) (a : Nat) (zs : List Int) (hz : ∀ z ∈ zs, 0 ≤ z ∧ z ≤ 255) (h : ∀ i, i < zs.length → m.r ((a + i) / 256) ≠ 0) : (putB m a zs).ok := by
  refine ⟨ok.r, fun i => ?_, ok.out, fun i hi => ?_⟩
  · dsimp only [putB]; split
    · exact getD_bd hz _
    · exact ok.b i
  · dsimp only [putB] at hi ⊢
    split
    · rename_i h1
      have := h (i - a) (by omega)
      rw [show a + (i - a) = i by omega] at this
      exact absurd hi this
    · exact ok.z i hi
def mappedL (m : Mm) (a : Int) : Nat → Nat
  | 0 => 0
  | n + 1 => if mappedL m a n = n ∧ m.r (((a + n) % 4294967296 / 256).toNat) ≠ 0 then n + 1 else mappedL m a n
theorem mapped_le (m : Mm) (a : Int) (n : Nat) : mappedL m a n ≤ n := by
  induction n with
  | zero => simp [mappedL]
  | succ n ih => unfold mappedL; split <;> omega
theorem mapped_stop {m : Mm} {a : Int} {k : Nat} (hk : mappedL m a k = k) (h : m.r (((a + k) % 4294967296 / 256).toNat) = 0) : ∀ n, k ≤ n → mappedL m a n = k := by
  intro n hn
  induction n with
  | zero => obtain rfl : k = 0 := by omega
            exact hk
  | succ n ih =>
    by_cases e : k = n + 1
    · subst e; exact hk
    · have := ih (by omega)
      unfold mappedL
      rw [if_neg, this]
      rw [this]
      rintro ⟨h1, h2⟩
      subst h1
      exact h2 h
theorem mapped_go {m : Mm} {a : Int} {k : Nat} (hk : mappedL m a k = k) (h : m.r (((a + k) % 4294967296 / 256).toNat) ≠ 0) : mappedL m a (k + 1) = k + 1 := by
  unfold mappedL; rw [if_pos ⟨hk, h⟩]
theorem mapped_all {m : Mm} {a : Int} {n : Nat} (h : mappedL m a n = n) : ∀ i, i < n → m.r (((a + i) % 4294967296 / 256).toNat) ≠ 0 := by
  induction n with
  | zero => intro i hi; omega
  | succ n ih =>
    unfold mappedL at h
    split at h
    · rename_i h0
      intro i hi
      by_cases e : i = n
      · subst e; exact h0.2
      · exact ih h0.1 i (by omega)
    · have := mapped_le m a n; omega
theorem mapped_end {m : Mm} (ok : m.ok) {a : Int} (ha : 0 ≤ a ∧ a ≤ 4294967295) {n : Nat} (h : mappedL m a n = n) (h0 : 0 < n) : a + n ≤ 16384 := by
  have key : ∀ k : Nat, k < n → a + k < 16384 := by
    intro k
    induction k with
    | zero =>
      intro hk
      have := mapped_all h 0 hk
      by_cases hb : a + (0 : Nat) < 16384
      · exact hb
      · exact absurd (ok.out _ (by omega)) this
    | succ k ih =>
      intro hk
      have h1 := ih (by omega)
      have := mapped_all h (k + 1) hk
      by_cases hb : a + (k + 1 : Nat) < 16384
      · exact hb
      · exact absurd (ok.out _ (by omega)) this
  have := key (n - 1) (by omega)
  omega
/-! ### How a memory lies in cells -/
structure MC (cs : Array Value) (m : Mm) : Prop where
  size : cs.size = 16448
  r : ∀ i : Nat, i < 64 → cs[i]? = some (.int .i64 (m.r i))
  b : ∀ i : Nat, i < 16384 → cs[64 + i]? = some (.int .u8 (m.b i))
structure MAt (T : TypeId) (w : World) (B : Nat) (m : Mm) : Prop where
  blk : ∃ cs, w.heap[B]? = some (.cells cs T (0, 0)) ∧ MC cs m
section
variable {T : TypeId} {w : World} {B : Nat} {m : Mm}
theorem MAt.lt (h : MAt T w B m) : B < w.heap.size := by
  obtain ⟨cs, hc, -⟩ := h.blk
  exact (Array.getElem?_eq_some_iff.1 hc).1
theorem MAt.but {S : List Nat} {w' : World} {n : Nat} (h : MAt T w B m) (hb : But S n w w') (hn : B < n) (hS : B ∉ S) : MAt T w' B m := by
  obtain ⟨cs, hc, hcs⟩ := h.blk
  exact ⟨cs, (hb.block B hn hS).trans hc, hcs⟩
theorem MAt.below {w' : World} {n : Nat} (h : MAt T w B m) (hb : Below n w w') (hn : B < n) : MAt T w' B m := h.but (But.of hb []) hn (by simp)
theorem MAt.alloc (h : MAt T w B m) (o : Obj) : MAt T (w.alloc o) B m := h.below ((Below.refl w.heap.size w).alloc (Nat.le_refl _) o) h.lt
theorem MAt.drew (h : MAt T w B m) : MAt T w.drew B m := ⟨h.blk⟩
theorem MAt.fr (h : MAt T w B m) (i : Nat) : w.frozen? ⟨B, i, none⟩ = false := by
  obtain ⟨cs, hc, -⟩ := h.blk
  simp only [World.frozen?, hc]; simp
theorem MAt.cell (h : MAt T w B m) {i : Nat} {v : Value} (hv : ∀ cs, MC cs m → cs[i]? = some v) : w.cell? ⟨B, i, none⟩ = some v := by
  obtain ⟨cs, hc, hcs⟩ := h.blk
  simp only [World.cell?, hc]; simpa using hv cs hcs
theorem MAt.r (h : MAt T w B m) (i : Nat) (hi : i < 64) : w.cell? ⟨B, i, none⟩ = some (.int .i64 (m.r i)) := h.cell fun _ c => c.r i hi
theorem MAt.b (h : MAt T w B m) (i : Nat) (hi : i < 16384) : w.cell? ⟨B, 64 + i, none⟩ = some (.int .u8 (m.b i)) := h.cell fun _ c => c.b i hi
theorem MAt.other {K i : Nat} (h : MAt T w B m) (hne : B ≠ K) {v : Value} : MAt T (w.setCell ⟨K, i, none⟩ v) B m := by
  obtain ⟨cs, hc, hcs⟩ := h.blk
  exact ⟨cs, (Below.heap_setCell _ _ _ _ (by simpa using hne)).trans hc, hcs⟩
theorem MAt.set (h : MAt T w B m) (i : Nat) (v : Value) (m' : Mm) (hc : ∀ cs, MC cs m → MC (cs.setIfInBounds i v) m') : MAt T (w.setCell ⟨B, i, none⟩ v) B m' := by
  obtain ⟨cs, hb, hcs⟩ := h.blk
  exact ⟨_, heap_set hb, hc cs hcs⟩
theorem MC.set_r {cs : Array Value} (c : MC cs m) (i : Nat) (hi : i < 64) (v : Int) (m' : Mm) (hr : ∀ j, m'.r j = if j = i then v else m.r j) (hb : m'.b = m.b) : MC (cs.setIfInBounds i (.int .i64 v)) m' := by
  have e := fun j => set_at (cs := cs) (i := i) (j := j) (v := .int .i64 v) (by rw [c.size]; omega)
  refine ⟨by rw [Array.size_setIfInBounds, c.size], fun j hj => ?_, fun j hj => by rw [e, if_neg (by omega), hb]; exact c.b j hj⟩
  rw [e, hr]
  by_cases hij : i = j
  · rw [if_pos hij, if_pos hij.symm]
  · rw [if_neg hij, if_neg (Ne.symm hij)]; exact c.r j hj
theorem MC.set_b {cs : Array Value} (c : MC cs m) (i : Nat) (hi : i < 16384) (v : Int) (m' : Mm) (hr : m'.r = m.r) (hb : ∀ j, m'.b j = if j = i then v else m.b j) : MC (cs.setIfInBounds (64 + i) (.int .u8 v)) m' := by
  have e := fun j => set_at (cs := cs) (i := 64 + i) (j := j) (v := .int .u8 v) (by rw [c.size]; omega)
  refine ⟨by rw [Array.size_setIfInBounds, c.size], fun j hj => by rw [e, if_neg (by omega), hr]; exact c.r j hj, fun j hj => ?_⟩
  rw [e, hb]
  by_cases hij : i = j
  · rw [if_pos (by omega), if_pos hij.symm]
  · rw [if_neg (by omega), if_neg (Ne.symm hij)]; exact c.b j hj
theorem MC.put {cs : Array Value} (c : MC cs m) (a : Nat) (zs : List Int) (hle : a + zs.length ≤ 16384) (l : List Value) (hl : l = zs.map (Value.int .u8)) :
    MC ((cs.toList.take (64 + a) ++ l ++ cs.toList.drop (64 + a + l.length)).toArray) (putB m a zs) := by
  subst hl
  have hL : (zs.map (Value.int .u8)).length = zs.length := by simp
  have e := splice_at cs (64 + a) (zs.map (Value.int .u8)) (by rw [hL, c.size]; omega)
  rw [hL] at e ⊢
  refine ⟨?_, fun i hi => ?_, fun i hi => ?_⟩
  · simp [c.size]; omega
  · rw [e, if_pos (by omega)]; exact c.r i hi
  · rw [e]
    dsimp only [putB]
    by_cases h1 : i < a
    · rw [if_pos (by omega), if_neg (by omega)]; exact c.b i hi
    · rw [if_neg (by omega)]
      by_cases h2 : i < a + zs.length
      · rw [if_pos (by omega), if_pos (by omega), show 64 + i - (64 + a) = i - a by omega]
        simp [List.getD_eq_getElem?_getD, show i - a < zs.length by omega]
      · rw [if_neg (by omega), if_neg (by omega)]; exact c.b i hi
theorem MAt.put (h : MAt T w B m) (cs : Array Value) (hb : w.heap[B]? = some (.cells cs T (0, 0))) (hc : MC cs m) (a : Nat) (zs : List Int) (hle : a + zs.length ≤ 16384) (l : List Value) (hl : l = zs.map (Value.int .u8)) :
    MAt T (w.setRow B (cs.toList.take (64 + a) ++ l ++ cs.toList.drop (64 + a + l.length)).toArray) B (putB m a zs) :=
  ⟨_, setRow_heap _ _ _ _ _ _ hb, hc.put a zs hle l hl⟩
theorem MC.same {cs cs' : Array Value} (c : MC cs m) (c' : MC cs' m) : cs = cs' := by
  apply Array.ext_getElem?
  intro i
  by_cases h1 : i < 64
  · rw [c.r i h1, c'.r i h1]
  · by_cases h2 : i < 16448
    · have := c.b (i - 64) (by omega)
      have h3 := c'.b (i - 64) (by omega)
      rw [show 64 + (i - 64) = i by omega] at this h3
      rw [this, h3]
    · rw [Array.getElem?_eq_none (by rw [c.size]; omega), Array.getElem?_eq_none (by rw [c'.size]; omega)]
theorem MC.one {cs : Array Value} (c : MC cs m) : cs.all (·.oneCell') = true := by
  rw [Array.all_eq_true]
  intro i hi
  rw [c.size] at hi
  by_cases h64 : i < 64
  · have := (Array.getElem?_eq_some_iff.1 (c.r i h64)).2; rw [this]; rfl
  · obtain ⟨j, rfl⟩ : ∃ j, i = 64 + j := ⟨i - 64, by omega⟩
    have := (Array.getElem?_eq_some_iff.1 (c.b j (by omega))).2; rw [this]; rfl
end
end Go.Proofs.YtcdoidnfdkodoaaGreatDoor
namespace Go.Proofs.YtcdoidnfdkodoaaGreatDoor
open Go.RowKit
theorem wfn_u32 {a : Int} (h : (Lit.int .u32 a).wf = true) : ∃ n : Nat, a = n ∧ n < 4294967296 := by
  simp [Lit.wf, IntKind.min, IntKind.max, IntKind.signed] at h
  obtain ⟨h0, h1⟩ := h
  have h2 : a ≤ 4294967295 := h1
  exact ⟨a.toNat, by omega, by omega⟩
theorem wfn_u8 {a : Int} (h : (Lit.int .u8 a).wf = true) : 0 ≤ a ∧ a ≤ 255 := by
  simp [Lit.wf, IntKind.min, IntKind.max, IntKind.signed] at h
  obtain ⟨h0, h1⟩ := h
  exact ⟨h0, h1⟩
end Go.Proofs.YtcdoidnfdkodoaaGreatDoor
