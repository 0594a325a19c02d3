import Derived.WalkKit
import Derived.WalkLawsBesides
import Derived.Lib.Hide
import Derived.Laws.CopyOwn
import Derived.Laws.CopyRow
import Derived.Lib.BufferWrite
import Derived.Deep.WholeRow
import Derived.Below
namespace Go.Proofs.YtcgleggdochbeaaDoor
open Go.RowKit
set_option linter.unusedVariables false
theorem ret_int {k : IntKind} {a b : Int} (h : a = b) : Ending.returned (.int k a) = .returned (.int k b) := by rw [h]
theorem ret_bool {a b : Bool} (h : a = b) : Ending.returned (.bool a) = .returned (.bool b) := by rw [h]
def held (n : Int) : Nat := if n < 1 then 1 else if 32 < n then 32 else n.toNat
def held0 (n : Int) : Nat := if n < 0 then 0 else if 32 < n then 32 else n.toNat
theorem u32_and_nat' (a b : Nat) (ha : a < 4294967296) (hb : b < 4294967296) : bits .and .u32 (a : Int) (b : Int) = ((a &&& b : Nat) : Int) := by
 have := u32_and (a : Int) (b : Int) (by omega) (by omega) (by omega) (by omega)
 simpa using this
theorem u32_or_nat' (a b : Nat) (ha : a < 4294967296) (hb : b < 4294967296) : bits .or .u32 (a : Int) (b : Int) = ((a ||| b : Nat) : Int) := by
 have := u32_or (a : Int) (b : Int) (by omega) (by omega) (by omega) (by omega)
 simpa using this
def mov (x at_ : Int) : Int := if 0 ≤ at_ then x / 2 ^ min at_.toNat 32 else x * 2 ^ min (-at_).toNat 32 % 4294967296
def fieldS (x at_ n : Int) : Int := mov x at_ % 2 ^ held0 n
theorem two_pow_le {k n : Nat} (h : k ≤ n) : (2 : Int) ^ k ≤ 2 ^ n := by
 have := Nat.pow_le_pow_right (n := 2) (by decide) h
 have e : ∀ k : Nat, (2 : Int) ^ k = ((2 ^ k : Nat) : Int) := fun k => by simp
 rw [e, e]; exact Int.ofNat_le.2 this
theorem two_pow_pos (k : Nat) : (1 : Int) ≤ 2 ^ k := by have : (0 : Int) < 2 ^ k := Int.pow_pos (by decide); omega
theorem cast_pow2 (k : Nat) : ((2 ^ k : Nat) : Int) = (2 : Int) ^ k := by simp
theorem low_mask {n : Nat} (h : n ≤ 32) : IntKind.u64.wrap (IntKind.u64.wrap (2 ^ n) - 1) % 4294967296 = 2 ^ n - 1 := by
 have h1 := two_pow_pos n
 have h2 : (2 : Int) ^ n ≤ 4294967296 := two_pow_le (n := 32) h
 rw [IntKind.wrap_u64, IntKind.wrap_u64]; omega
theorem mov_bd (x n : Int) (h : 0 ≤ x ∧ x ≤ 4294967295) : 0 ≤ mov x n ∧ mov x n ≤ 4294967295 := by
 unfold mov; split
 ·have := two_pow_pos (min n.toNat 32)
  exact ⟨Int.ediv_nonneg h.1 (by omega), Int.le_trans (Int.ediv_le_self _ h.1) h.2⟩
 ·omega
theorem mov_up {x : Int} {k : Nat} : x / 2 ^ min k 32 = mov x k := by unfold mov; rw [if_pos (by omega), Int.toNat_natCast]
theorem mov_far {x n : Int} (h : n < -32) : 0 = mov x n := by
 unfold mov; rw [if_neg (by omega), show min (-n).toNat 32 = 32 from by omega]; omega
theorem mov_down {x n : Int} (h : n < 0) (h2 : -32 ≤ n) : x * 2 ^ (-n).toNat % 4294967296 = mov x n := by
 unfold mov; rw [if_neg (by omega), show min (-n).toNat 32 = (-n).toNat from by omega]
theorem and_mask (m : Int) (k : Nat) (hm : 0 ≤ m ∧ m ≤ 4294967295) (hk : k ≤ 32) : bits .and .u32 m (2 ^ k - 1) = m % 2 ^ k := by
 obtain ⟨M, rfl⟩ := Int.eq_ofNat_of_zero_le hm.1
 have h1 := Nat.two_pow_pos k
 have h2 : 2 ^ k ≤ 2 ^ 32 := Nat.pow_le_pow_right (by decide) hk
 have e : ((2 : Int) ^ k - 1) = ((2 ^ k - 1 : Nat) : Int) := by rw [Int.ofNat_sub h1, cast_pow2]; rfl
 rw [e, u32_and_nat' M (2 ^ k - 1) (by omega) (by omega), Nat.and_two_pow_sub_one_eq_mod, Int.natCast_emod, cast_pow2]
theorem field_lo {x n k : Int} (hm : 0 ≤ mov x n ∧ mov x n ≤ 4294967295) (h : k < 0) : bits .and .u32 (mov x n) 0 = fieldS x n k := by
 unfold fieldS held0; rw [if_pos h]
 have := and_mask (mov x n) 0 hm (by omega)
 simpa using this
theorem field_hi {x n k : Int} (hm : 0 ≤ mov x n ∧ mov x n ≤ 4294967295) (h : 32 < k) : bits .and .u32 (mov x n) 4294967295 = fieldS x n k := by
 unfold fieldS held0; rw [if_neg (by omega), if_pos h]
 exact and_mask (mov x n) 32 hm (by omega)
theorem field_mid {x n : Int} {k : Nat} (hm : 0 ≤ mov x n ∧ mov x n ≤ 4294967295) (h : k ≤ 32) : bits .and .u32 (mov x n) (2 ^ k - 1) = fieldS x n k := by
 unfold fieldS held0; rw [if_neg (by omega), if_neg (by omega), Int.toNat_natCast]
 exact and_mask (mov x n) k hm h
def Row8 (w : World) (a : Option Addr) (len : Nat) (zs : List Int) : Prop :=
 zs.length = len ∧ (∀ z ∈ zs, 0 ≤ z ∧ z ≤ 255) ∧ (zs = [] ∨ ∃ b off, a = some ⟨b, off, none⟩ ∧ b < w.heap.size ∧ ∀ i, i < len → w.cell? ⟨b, off + i, none⟩ = some (.int .u8 (zs.getD i 0)))
theorem Row8.below {w w1 : World} {a : Option Addr} {len : Nat} {zs : List Int} (h : Row8 w a len zs) (hb : Below w.heap.size w w1) : Row8 w1 a len zs := by
 obtain ⟨h1, h2, h3⟩ := h
 refine ⟨h1, h2, ?_⟩
 rcases h3 with h3 | ⟨b, off, ha, hlt, hc⟩
 ·exact .inl h3
 ·exact .inr ⟨b, off, ha, by have := hb.size; omega, fun i hi => by rw [hb.cell (p := ⟨b, off + i, none⟩) hlt]; exact hc i hi⟩
theorem getD_bd {zs : List Int} (hz : ∀ z ∈ zs, 0 ≤ z ∧ z ≤ 255) (i : Nat) : 0 ≤ zs.getD i 0 ∧ zs.getD i 0 ≤ 255 := by
 by_cases h : i < zs.length
 ·rw [List.getD_eq_getElem?_getD, List.getElem?_eq_getElem h]; exact hz _ (List.getElem_mem h)
 ·rw [List.getD_eq_getElem?_getD, List.getElem?_eq_none (by omega)]; decide
theorem or_add {a b : Nat} (k : Nat) (h : a < 2 ^ k) : a ||| b * 2 ^ k = a + b * 2 ^ k := by
 have := Nat.two_pow_add_eq_or_of_lt h b
 rw [Nat.or_comm, Nat.mul_comm b, ← this, Nat.add_comm]
theorem or_bytes (a b c d : Int) (ha : 0 ≤ a ∧ a ≤ 255) (hb : 0 ≤ b ∧ b ≤ 255) (hc : 0 ≤ c ∧ c ≤ 255) (hd : 0 ≤ d ∧ d ≤ 255) :
  bits .or .u32 (bits .or .u32 (bits .or .u32 a (b * 256)) (c * 65536)) (d * 16777216) = a + b * 256 + c * 65536 + d * 16777216 := by
 obtain ⟨A, rfl⟩ := Int.eq_ofNat_of_zero_le ha.1
 obtain ⟨B, rfl⟩ := Int.eq_ofNat_of_zero_le hb.1
 obtain ⟨C, rfl⟩ := Int.eq_ofNat_of_zero_le hc.1
 obtain ⟨D, rfl⟩ := Int.eq_ofNat_of_zero_le hd.1
 have e1 : ((B : Int) * 256) = ((B * 2 ^ 8 : Nat) : Int) := by omega
 have e2 : ((C : Int) * 65536) = ((C * 2 ^ 16 : Nat) : Int) := by omega
 have e3 : ((D : Int) * 16777216) = ((D * 2 ^ 24 : Nat) : Int) := by omega
 rw [e1, u32_or_nat' _ _ (by omega) (by omega), or_add 8 (by omega), e2, u32_or_nat' _ _ (by omega) (by omega), or_add 16 (by omega), e3,
  u32_or_nat' _ _ (by omega) (by omega), or_add 24 (by omega)]
 omega
theorem splice4 (zs : List Int) : splice [Value.int .u8 0, Value.int .u8 0, Value.int .u8 0, Value.int .u8 0] 0 (List.take 4 (List.map (Value.int .u8) zs))
  = [Value.int .u8 (zs.getD 0 0), Value.int .u8 (zs.getD 1 0), Value.int .u8 (zs.getD 2 0), Value.int .u8 (zs.getD 3 0)] := by
 rcases zs with _ | ⟨a, _ | ⟨b, _ | ⟨c, _ | ⟨d, r⟩⟩⟩⟩ <;> simp [splice]
theorem cells4 {w : World} {g : Nat} {v0 v1 v2 v3 : Value} {t : TypeId} (h : w.heap[g]? = some (.cells #[v0, v1, v2, v3] t (0, 0))) :
  w.cell? ⟨g, 0, none⟩ = some v0 ∧ w.cell? ⟨g, 1, none⟩ = some v1 ∧ w.cell? ⟨g, 2, none⟩ = some v2 ∧ w.cell? ⟨g, 3, none⟩ = some v3 := by
 simp [World.cell?, h]
theorem alloc_new (w : World) (o : Obj) : (w.alloc o).heap[w.heap.size]? = some o := by
 show (w.heap.push o)[w.heap.size]? = some o; simp
def wordS (zs : List Int) : Int := zs.getD 0 0 + zs.getD 1 0 * 256 + zs.getD 2 0 * 65536 + zs.getD 3 0 * 16777216
end Go.Proofs.YtcgleggdochbeaaDoor
namespace Go.Proofs.YtcgleggdochbeaaDoor
open Go.RowKit
set_option linter.unusedVariables false
set_option linter.unusedSimpArgs false
set_option linter.unusedSectionVars false
/-! ### What a call turns of memory -/
structure But (S : List Nat) (n : Nat) (w w' : World) : Prop where
 os : w'.os = w.os
 tape : w'.tape = w.tape
 output : w'.output = w.output
 size : w.heap.size ≤ w'.heap.size
 block : ∀ k, k < n → k ∉ S → w'.heap[k]? = w.heap[k]?
theorem But.of {n : Nat} {w w' : World} (h : Below n w w') (S : List Nat) : But S n w w' := ⟨h.os, h.tape, h.output, h.size, fun k hk _ => h.block k hk⟩
theorem But.refl (S : List Nat) (n : Nat) (w : World) : But S n w w := But.of (Below.refl n w) S
theorem But.trans {S : List Nat} {n : Nat} {a b c : World} (h : But S n a b) (k : But S n b c) : But S n a c :=
 ⟨k.os.trans h.os, k.tape.trans h.tape, k.output.trans h.output, Nat.le_trans h.size k.size, fun i hi hs => (k.block i hi hs).trans (h.block i hi hs)⟩
theorem But.mono {S S' : List Nat} {n n' : Nat} {w w' : World} (h : But S n w w') (hn : n' ≤ n) (hS : ∀ k, k ∈ S → k ∈ S' ∨ n' ≤ k) : But S' n' w w' :=
 ⟨h.os, h.tape, h.output, h.size, fun k hk hs => h.block k (by omega) (fun hm => by rcases hS k hm with h1 | h1; exact hs h1; omega)⟩
theorem But.below {S : List Nat} {n n' : Nat} {w w' : World} (h : But S n w w') (hn : n' ≤ n) (hS : ∀ k, k ∈ S → n' ≤ k) : Below n' w w' :=
 ⟨h.os, h.tape, h.output, h.size, fun k hk => h.block k (by omega) (fun hm => by have := hS k hm; omega)⟩
theorem But.setCell {S : List Nat} {n : Nat} {a w : World} (h : But S n a w) {p : Addr} (hp : p.block ∈ S) (u : Value) : But S n a (w.setCell p u) :=
 h.trans ⟨rfl, rfl, rfl, by simp [World.setCell], fun k hk hs => Below.heap_setCell _ _ _ _ (fun e => hs (e ▸ hp))⟩
theorem But.alloc {S : List Nat} {n : Nat} {a w : World} (h : But S n a w) (hn : n ≤ w.heap.size) (o : Obj) : But S n a (w.alloc o) :=
 h.trans (But.of ((Below.refl n w).alloc hn o) S)
theorem But.setRow {S : List Nat} {n : Nat} {a w : World} (h : But S n a w) {g : Nat} (hg : g ∈ S) (cs : Array Value) : But S n a (w.setRow g cs) :=
 h.trans ⟨rfl, rfl, rfl, by simp [World.setRow], fun k hk hs => setRow_other w g k cs (fun e => hs (e ▸ hg))⟩
theorem But.drew {S : List Nat} {n : Nat} {a w : World} (h : But S n a w) : But S n a w.drew := ⟨h.os, h.tape, h.output, h.size, h.block⟩
theorem heap_set {w : World} {B i : Nat} {cs : Array Value} {t : TypeId} {v : Value} (h : w.heap[B]? = some (.cells cs t (0, 0))) : (w.setCell ⟨B, i, none⟩ v).heap[B]? = some (.cells (cs.setIfInBounds i v) t (0, 0)) := by
 simp only [World.setCell, Array.getElem?_modify, h]; simp
theorem size_of_cell {W : World} {b o : Nat} {v : Value} (h : W.cell? ⟨b, o, none⟩ = some v) : b < W.heap.size := by
 rcases Nat.lt_or_ge b W.heap.size with h1 | h1
 ·exact h1
 ·simp [World.cell?, Array.getElem?_eq_none h1] at h
end Go.Proofs.YtcgleggdochbeaaDoor
