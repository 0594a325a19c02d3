import Derived.WalkKit
import Derived.WalkLawsBesides
import Derived.Lib.Hide
import Derived.Laws.CopyOwn
import Derived.Laws.CopyRow
import Derived.Lib.BufferWrite
import Derived.Deep.WholeRow
import Derived.Below
import Derived.Laws.Rows
import Derived.Laws.Tables
import Derived.Deep.MidRow
import Derived.Test.YtcdoidnfdkodoaaGreatDoorRows
namespace Go.Proofs.YtcdoidnfdkodoaaGreatDoor
open Go.RowKit
set_option linter.unusedVariables false
theorem ret_int {k : IntKind} {a b : Int} (h : a = b) : Ending.returned (.int k a) = .returned (.int k b) := by rw [h]
theorem ret_bool {a b : Bool} (h : a = b) : Ending.returned (.bool a) = .returned (.bool b) := by rw [h]
theorem ret_ii {k l : IntKind} {a b c d : Int} (h : a = b) (h1 : c = d) :
    Ending.returned (.tuple #[.int k a, .int l c]) = .returned (.tuple #[.int k b, .int l d]) := by rw [h, h1]
theorem bd32 (x : Int) : -2147483648 ≤ wrap32 x ∧ wrap32 x ≤ 2147483647 := by unfold wrap32; omega
def c01 (c : Bool) : Int := if c then 1 else 0
theorem bd01 (c : Bool) : 0 ≤ c01 c ∧ c01 c ≤ 1 := by cases c <;> decide
def held (n : Int) : Nat := if n < 1 then 1 else if 32 < n then 32 else n.toNat
def held0 (n : Int) : Nat := if n < 0 then 0 else if 32 < n then 32 else n.toNat
def ones (n : Nat) : Nat → Nat
  | 0 => 0
  | k + 1 => ones n k + n / 2 ^ k % 2
def evenS (n k : Nat) : Bool := ones n k % 2 == 0
theorem u32_xor_nat' (a b : Nat) (ha : a < 4294967296) (hb : b < 4294967296) : bits .xor .u32 (a : Int) (b : Int) = ((a ^^^ b : Nat) : Int) := by
  have := u32_xor (a : Int) (b : Int) (by omega) (by omega) (by omega) (by omega)
  simpa using this
theorem u32_and_nat' (a b : Nat) (ha : a < 4294967296) (hb : b < 4294967296) : bits .and .u32 (a : Int) (b : Int) = ((a &&& b : Nat) : Int) := by
  have := u32_and (a : Int) (b : Int) (by omega) (by omega) (by omega) (by omega)
  simpa using this
theorem u32_or_nat' (a b : Nat) (ha : a < 4294967296) (hb : b < 4294967296) : bits .or .u32 (a : Int) (b : Int) = ((a ||| b : Nat) : Int) := by
  have := u32_or (a : Int) (b : Int) (by omega) (by omega) (by omega) (by omega)
  simpa using this
theorem bool_mod2 (a b c : Nat) (h : decide (c % 2 = 1) = (decide (a % 2 = 1) ^^ decide (b % 2 = 1))) : c % 2 = (a + b) % 2 := by
  by_cases h1 : a % 2 = 1 <;> by_cases h2 : b % 2 = 1 <;> by_cases h3 : c % 2 = 1 <;> simp [h1, h2, h3] at h <;> omega
theorem xor_mod2 (a b : Nat) : (a ^^^ b) % 2 = (a + b) % 2 := by
  have h0 := Nat.testBit_xor (x := a) (y := b) (i := 0)
  simp only [Nat.testBit_zero] at h0
  exact bool_mod2 a b _ h0
theorem xor_div (a b k : Nat) : (a ^^^ b) / 2 ^ k = (a / 2 ^ k) ^^^ (b / 2 ^ k) := by
  rw [← Nat.shiftRight_eq_div_pow, ← Nat.shiftRight_eq_div_pow, ← Nat.shiftRight_eq_div_pow, Nat.shiftRight_xor_distrib]
theorem xor_lt32 {a b : Nat} (ha : a < 4294967296) (hb : b < 4294967296) : a ^^^ b < 4294967296 := Nat.xor_lt_two_pow (n := 32) ha hb
theorem par1 {s t a b : Nat} (h : s % 2 = t % 2) (h1 : a % 2 = b % 2) : (s + a) % 2 = (t + b) % 2 := by omega
theorem par0 {s t : Nat} (a : Nat) (h : s % 2 = t % 2) : (s + a % 2) % 2 = (t + a) % 2 := by omega
theorem par2 (z z1 y y1 y2 y3 : Nat) (h0 : z % 2 = (y + y2) % 2) (h1 : z1 % 2 = (y1 + y3) % 2) : (z + z1) % 2 = (y + y1 + y2 + y3) % 2 := by
  rw [par1 h0 h1]; exact congrArg (· % 2) (by omega)
theorem par4 (y y1 y2 y3 a b c d e f g h : Nat) (h0 : y % 2 = (a + e) % 2) (h1 : y1 % 2 = (b + f) % 2) (h2 : y2 % 2 = (c + g) % 2) (h3 : y3 % 2 = (d + h) % 2) :
    (y + y1 + y2 + y3) % 2 = (a + b + c + d + e + f + g + h) % 2 := by
  rw [par1 (par1 (par1 h0 h1) h2) h3]; exact congrArg (· % 2) (by omega)
theorem par8 (a b c d e f g h : Nat) : (0 + a % 2 + b % 2 + c % 2 + d % 2 + e % 2 + f % 2 + g % 2 + h % 2) % 2 = (0 + a + b + c + d + e + f + g + h) % 2 :=
  par0 h (par0 g (par0 f (par0 e (par0 d (par0 c (par0 b (par0 a rfl)))))))
theorem fold_even (X : Nat) (h : X < 4294967296) :
    (bits BinOp.and IntKind.u32
        (bits BinOp.xor IntKind.u32
          (bits BinOp.xor IntKind.u32 (bits BinOp.xor IntKind.u32 X (X / 16 : Int)) (bits BinOp.xor IntKind.u32 X (X / 16 : Int) / 4))
          (bits BinOp.xor IntKind.u32 (bits BinOp.xor IntKind.u32 X (X / 16 : Int)) (bits BinOp.xor IntKind.u32 X (X / 16 : Int) / 4) / 2)) 1 == 0) = evenS X 8 := by
  have e1 : ((X : Int) / 16) = ((X / 16 : Nat) : Int) := by omega
  rw [e1, u32_xor_nat' X (X / 16) h (by omega)]
  generalize hY : X ^^^ X / 16 = Y
  have bY : Y < 4294967296 := by rw [← hY]; exact xor_lt32 h (by omega)
  have e2 : ((Y : Int) / 4) = ((Y / 4 : Nat) : Int) := by omega
  rw [e2, u32_xor_nat' Y (Y / 4) bY (by omega)]
  generalize hZ : Y ^^^ Y / 4 = Z
  have bZ : Z < 4294967296 := by rw [← hZ]; exact xor_lt32 bY (by omega)
  have e3 : ((Z : Int) / 2) = ((Z / 2 : Nat) : Int) := by omega
  rw [e3, u32_xor_nat' Z (Z / 2) bZ (by omega)]
  have e4 : (1 : Int) = ((1 : Nat) : Int) := rfl
  rw [e4, u32_and_nat' _ 1 (xor_lt32 bZ (by omega)) (by decide), Nat.and_one_is_mod, xor_mod2]
  have z0 : Z % 2 = (Y + Y / 4) % 2 := by rw [← hZ, xor_mod2]
  have z1 : Z / 2 % 2 = (Y / 2 + Y / 8) % 2 := by
    have := xor_div Y (Y / 4) 1; rw [hZ] at this; simp only [Nat.pow_one] at this; rw [this, xor_mod2, Nat.div_div_eq_div_mul]
  have w0 : Y % 2 = (X + X / 16) % 2 := by rw [← hY, xor_mod2]
  have w1 : Y / 2 % 2 = (X / 2 + X / 32) % 2 := by
    have := xor_div X (X / 16) 1; rw [hY] at this; simp only [Nat.pow_one] at this; rw [this, xor_mod2, Nat.div_div_eq_div_mul]
  have w2 : Y / 4 % 2 = (X / 4 + X / 64) % 2 := by
    have := xor_div X (X / 16) 2; rw [hY, show (2 : Nat) ^ 2 = 4 from rfl] at this; rw [this, xor_mod2, Nat.div_div_eq_div_mul]
  have w3 : Y / 8 % 2 = (X / 8 + X / 128) % 2 := by
    have := xor_div X (X / 16) 3; rw [hY, show (2 : Nat) ^ 3 = 8 from rfl] at this; rw [this, xor_mod2, Nat.div_div_eq_div_mul]
  have t1 := par2 _ _ _ _ _ _ z0 z1
  have t2 := par4 _ _ _ _ _ _ _ _ _ _ _ _ w0 w1 w2 w3
  have t3 := par8 X (X / 2) (X / 4) (X / 8) (X / 16) (X / 32) (X / 64) (X / 128)
  unfold evenS
  simp only [ones, Nat.pow_zero, Nat.div_one, Nat.pow_one, show (2 : Nat) ^ 2 = 4 from rfl, show (2 : Nat) ^ 3 = 8 from rfl, show (2 : Nat) ^ 4 = 16 from rfl, show (2 : Nat) ^ 5 = 32 from rfl, show (2 : Nat) ^ 6 = 64 from rfl, show (2 : Nat) ^ 7 = 128 from rfl]
  rw [t3, Nat.zero_add, ← t2, ← t1, Bool.eq_iff_iff]
  simp only [beq_iff_eq]
  clear z0 z1 w0 w1 w2 w3 t1 t2 t3 e1 e2 e3 e4 hY hZ bY bZ
  omega
def mov (x at_ : Int) : Int := if 0 ≤ at_ then x / 2 ^ min at_.toNat 32 else x * 2 ^ min (-at_).toNat 32 % 4294967296
def fieldS (x at_ n : Int) : Int := mov x at_ % 2 ^ held0 n
theorem two_pow_le {k n : Nat} (h : k ≤ n) : (2 : Int) ^ k ≤ 2 ^ n := by
  have := Nat.pow_le_pow_right (n := 2) (by decide) h
  have e : ∀ k : Nat, (2 : Int) ^ k = ((2 ^ k : Nat) : Int) := fun k => by simp
  rw [e, e]; exact Int.ofNat_le.2 this
theorem two_pow_pos (k : Nat) : (1 : Int) ≤ 2 ^ k := by have : (0 : Int) < 2 ^ k := Int.pow_pos (by decide); omega
theorem cast_pow2 (k : Nat) : ((2 ^ k : Nat) : Int) = (2 : Int) ^ k := by simp
theorem low_mask {n : Nat} (h : n ≤ 32) : IntKind.u64.wrap (IntKind.u64.wrap (2 ^ n) - 1) % 4294967296 = 2 ^ n - 1 := by
  have h1 := two_pow_pos n
  have h2 : (2 : Int) ^ n ≤ 4294967296 := two_pow_le (n := 32) h
  rw [IntKind.wrap_u64, IntKind.wrap_u64]; omega
theorem mov_bd (x n : Int) (h : 0 ≤ x ∧ x ≤ 4294967295) : 0 ≤ mov x n ∧ mov x n ≤ 4294967295 := by
  unfold mov; split
  · have := two_pow_pos (min n.toNat 32)
    exact ⟨Int.ediv_nonneg h.1 (by omega), Int.le_trans (Int.ediv_le_self _ h.1) h.2⟩
  · omega
theorem mov_up {x : Int} {k : Nat} : x / 2 ^ min k 32 = mov x k := by unfold mov; rw [if_pos (by omega), Int.toNat_natCast]
theorem mov_far {x n : Int} (h : n < -32) : 0 = mov x n := by
  unfold mov; rw [if_neg (by omega), show min (-n).toNat 32 = 32 from by omega]; omega
theorem mov_down {x n : Int} (h : n < 0) (h2 : -32 ≤ n) : x * 2 ^ (-n).toNat % 4294967296 = mov x n := by
  unfold mov; rw [if_neg (by omega), show min (-n).toNat 32 = (-n).toNat from by omega]
theorem and_mask (m : Int) (k : Nat) (hm : 0 ≤ m ∧ m ≤ 4294967295) (hk : k ≤ 32) : bits .and .u32 m (2 ^ k - 1) = m % 2 ^ k := by
  obtain ⟨M, rfl⟩ := Int.eq_ofNat_of_zero_le hm.1
  have h1 := Nat.two_pow_pos k
  have h2 : 2 ^ k ≤ 2 ^ 32 := Nat.pow_le_pow_right (by decide) hk
  have e : ((2 : Int) ^ k - 1) = ((2 ^ k - 1 : Nat) : Int) := by rw [Int.ofNat_sub h1, cast_pow2]; rfl
  rw [e, u32_and_nat' M (2 ^ k - 1) (by omega) (by omega), Nat.and_two_pow_sub_one_eq_mod, Int.natCast_emod, cast_pow2]
theorem field_lo {x n k : Int} (hm : 0 ≤ mov x n ∧ mov x n ≤ 4294967295) (h : k < 0) : bits .and .u32 (mov x n) 0 = fieldS x n k := by
  unfold fieldS held0; rw [if_pos h]
  have := and_mask (mov x n) 0 hm (by omega)
  simpa using this
theorem field_hi {x n k : Int} (hm : 0 ≤ mov x n ∧ mov x n ≤ 4294967295) (h : 32 < k) : bits .and .u32 (mov x n) 4294967295 = fieldS x n k := by
  unfold fieldS held0; rw [if_neg (by omega), if_pos h]
  exact and_mask (mov x n) 32 hm (by omega)
theorem field_mid {x n : Int} {k : Nat} (hm : 0 ≤ mov x n ∧ mov x n ≤ 4294967295) (h : k ≤ 32) : bits .and .u32 (mov x n) (2 ^ k - 1) = fieldS x n k := by
  unfold fieldS held0; rw [if_neg (by omega), if_neg (by omega), Int.toNat_natCast]
  exact and_mask (mov x n) k hm h
def Row8 (w : World) (a : Option Addr) (len : Nat) (zs : List Int) : Prop :=
  zs.length = len ∧ (∀ z ∈ zs, 0 ≤ z ∧ z ≤ 255) ∧ (zs = [] ∨ ∃ b off, a = some ⟨b, off, none⟩ ∧ b < w.heap.size ∧ ∀ i, i < len → w.cell? ⟨b, off + i, none⟩ = some (.int .u8 (zs.getD i 0)))
theorem Row8.below {w w1 : World} {a : Option Addr} {len : Nat} {zs : List Int} (h : Row8 w a len zs) (hb : Below w.heap.size w w1) : Row8 w1 a len zs := by
  obtain ⟨h1, h2, h3⟩ := h
  refine ⟨h1, h2, ?_⟩
  rcases h3 with h3 | ⟨b, off, ha, hlt, hc⟩
  · exact .inl h3
  · exact .inr ⟨b, off, ha, by have := hb.size; omega, fun i hi => by rw [hb.cell (p := ⟨b, off + i, none⟩) hlt]; exact hc i hi⟩
theorem getD_bd {zs : List Int} (hz : ∀ z ∈ zs, 0 ≤ z ∧ z ≤ 255) (i : Nat) : 0 ≤ zs.getD i 0 ∧ zs.getD i 0 ≤ 255 := by
  by_cases h : i < zs.length
  · rw [List.getD_eq_getElem?_getD, List.getElem?_eq_getElem h]; exact hz _ (List.getElem_mem h)
  · rw [List.getD_eq_getElem?_getD, List.getElem?_eq_none (by omega)]; decide
theorem or_add {a b : Nat} (k : Nat) (h : a < 2 ^ k) : a ||| b * 2 ^ k = a + b * 2 ^ k := by
  have := Nat.two_pow_add_eq_or_of_lt h b
  rw [Nat.or_comm, Nat.mul_comm b, ← this, Nat.add_comm]
theorem or_bytes (a b c d : Int) (ha : 0 ≤ a ∧ a ≤ 255) (hb : 0 ≤ b ∧ b ≤ 255) (hc : 0 ≤ c ∧ c ≤ 255) (hd : 0 ≤ d ∧ d ≤ 255) :
    bits .or .u32 (bits .or .u32 (bits .or .u32 a (b * 256)) (c * 65536)) (d * 16777216) = a + b * 256 + c * 65536 + d * 16777216 := by
  obtain ⟨A, rfl⟩ := Int.eq_ofNat_of_zero_le ha.1
  obtain ⟨B, rfl⟩ := Int.eq_ofNat_of_zero_le hb.1
  obtain ⟨C, rfl⟩ := Int.eq_ofNat_of_zero_le hc.1
  obtain ⟨D, rfl⟩ := Int.eq_ofNat_of_zero_le hd.1
  have e1 : ((B : Int) * 256) = ((B * 2 ^ 8 : Nat) : Int) := by omega
  have e2 : ((C : Int) * 65536) = ((C * 2 ^ 16 : Nat) : Int) := by omega
  have e3 : ((D : Int) * 16777216) = ((D * 2 ^ 24 : Nat) : Int) := by omega
  rw [e1, u32_or_nat' _ _ (by omega) (by omega), or_add 8 (by omega), e2, u32_or_nat' _ _ (by omega) (by omega), or_add 16 (by omega), e3,
    u32_or_nat' _ _ (by omega) (by omega), or_add 24 (by omega)]
  omega
theorem splice4 (zs : List Int) : splice [Value.int .u8 0, Value.int .u8 0, Value.int .u8 0, Value.int .u8 0] 0 (List.take 4 (List.map (Value.int .u8) zs))
    = [Value.int .u8 (zs.getD 0 0), Value.int .u8 (zs.getD 1 0), Value.int .u8 (zs.getD 2 0), Value.int .u8 (zs.getD 3 0)] := by
  rcases zs with _ | ⟨a, _ | ⟨b, _ | ⟨c, _ | ⟨d, r⟩⟩⟩⟩ <;> simp [splice]
theorem cells4 {w : World} {g : Nat} {v0 v1 v2 v3 : Value} {t : TypeId} (h : w.heap[g]? = some (.cells #[v0, v1, v2, v3] t (0, 0))) :
    w.cell? ⟨g, 0, none⟩ = some v0 ∧ w.cell? ⟨g, 1, none⟩ = some v1 ∧ w.cell? ⟨g, 2, none⟩ = some v2 ∧ w.cell? ⟨g, 3, none⟩ = some v3 := by
  simp [World.cell?, h]
theorem alloc_new (w : World) (o : Obj) : (w.alloc o).heap[w.heap.size]? = some o := by
  show (w.heap.push o)[w.heap.size]? = some o; simp
def wordS (zs : List Int) : Int := zs.getD 0 0 + zs.getD 1 0 * 256 + zs.getD 2 0 * 65536 + zs.getD 3 0 * 16777216
theorem or_byte (y z : Int) (k : Nat) (h4 : k < 4) (hy : 0 ≤ y ∧ y < 2 ^ (8 * k)) (hz : 0 ≤ z ∧ z ≤ 255) : bits .or .u32 y (z * 2 ^ (8 * k) % 4294967296) = y + z * 2 ^ (8 * k) := by
  obtain ⟨Y, rfl⟩ := Int.eq_ofNat_of_zero_le hy.1
  obtain ⟨Z, rfl⟩ := Int.eq_ofNat_of_zero_le hz.1
  have hY : Y < 2 ^ (8 * k) := by have := hy.2; rw [← cast_pow2] at this; omega
  have hZ : Z * 2 ^ (8 * k) < 4294967296 := by
    have h1 : 2 ^ (8 * k) ≤ 2 ^ 24 := Nat.pow_le_pow_right (by decide) (by omega)
    have := Nat.mul_le_mul (show Z ≤ 255 by omega) h1
    omega
  have hY2 : Y < 4294967296 := by
    have h1 : 2 ^ (8 * k) ≤ 2 ^ 24 := Nat.pow_le_pow_right (by decide) (by omega)
    omega
  have e : ((Z : Int) * 2 ^ (8 * k) % 4294967296) = ((Z * 2 ^ (8 * k) : Nat) : Int) := by rw [Int.natCast_mul, cast_pow2] at *; rw [← cast_pow2, ← Int.natCast_mul]; omega
  rw [e, u32_or_nat' _ _ hY2 hZ, or_add _ hY, Int.natCast_add, Int.natCast_mul, cast_pow2]
end Go.Proofs.YtcdoidnfdkodoaaGreatDoor
namespace Go.Proofs.YtcdoidnfdkodoaaGreatDoor
open Go.RowKit
set_option linter.unusedVariables false
set_option linter.unusedSimpArgs false
set_option linter.unusedSectionVars false
/-! ### What a call turns of memory -/
structure But (S : List Nat) (n : Nat) (w w' : World) : Prop where
  os : w'.os = w.os
  tape : w'.tape = w.tape
  output : w'.output = w.output
  size : w.heap.size ≤ w'.heap.size
  block : ∀ k, k < n → k ∉ S → w'.heap[k]? = w.heap[k]?
theorem But.of {n : Nat} {w w' : World} (h : Below n w w') (S : List Nat) : But S n w w' := ⟨h.os, h.tape, h.output, h.size, fun k hk _ => h.block k hk⟩
theorem But.refl (S : List Nat) (n : Nat) (w : World) : But S n w w := But.of (Below.refl n w) S
theorem But.trans {S : List Nat} {n : Nat} {a b c : World} (h : But S n a b) (k : But S n b c) : But S n a c :=
  ⟨k.os.trans h.os, k.tape.trans h.tape, k.output.trans h.output, Nat.le_trans h.size k.size, fun i hi hs => (k.block i hi hs).trans (h.block i hi hs)⟩
theorem But.mono {S S' : List Nat} {n n' : Nat} {w w' : World} (h : But S n w w') (hn : n' ≤ n) (hS : ∀ k, k ∈ S → k ∈ S' ∨ n' ≤ k) : But S' n' w w' :=
  ⟨h.os, h.tape, h.output, h.size, fun k hk hs => h.block k (by omega) (fun hm => by rcases hS k hm with h1 | h1; exact hs h1; omega)⟩
theorem But.below {S : List Nat} {n n' : Nat} {w w' : World} (h : But S n w w') (hn : n' ≤ n) (hS : ∀ k, k ∈ S → n' ≤ k) : Below n' w w' :=
  ⟨h.os, h.tape, h.output, h.size, fun k hk => h.block k (by omega) (fun hm => by have := hS k hm; omega)⟩
theorem But.setCell {S : List Nat} {n : Nat} {a w : World} (h : But S n a w) {p : Addr} (hp : p.block ∈ S) (u : Value) : But S n a (w.setCell p u) :=
  h.trans ⟨rfl, rfl, rfl, by simp [World.setCell], fun k hk hs => Below.heap_setCell _ _ _ _ (fun e => hs (e ▸ hp))⟩
theorem But.alloc {S : List Nat} {n : Nat} {a w : World} (h : But S n a w) (hn : n ≤ w.heap.size) (o : Obj) : But S n a (w.alloc o) :=
  h.trans (But.of ((Below.refl n w).alloc hn o) S)
theorem But.setRow {S : List Nat} {n : Nat} {a w : World} (h : But S n a w) {g : Nat} (hg : g ∈ S) (cs : Array Value) : But S n a (w.setRow g cs) :=
  h.trans ⟨rfl, rfl, rfl, by simp [World.setRow], fun k hk hs => setRow_other w g k cs (fun e => hs (e ▸ hg))⟩
theorem But.drew {S : List Nat} {n : Nat} {a w : World} (h : But S n a w) : But S n a w.drew := ⟨h.os, h.tape, h.output, h.size, h.block⟩
theorem below_but {S : List Nat} {n : Nat} {a b c : World} (h : Below n a b) (k : But S b.heap.size b c) (hn : n ≤ b.heap.size) (hS : ∀ k, k ∈ S → n ≤ k) : Below n a c :=
  h.trans (k.below hn hS)
theorem heap_set {w : World} {B i : Nat} {cs : Array Value} {t : TypeId} {v : Value} (h : w.heap[B]? = some (.cells cs t (0, 0))) : (w.setCell ⟨B, i, none⟩ v).heap[B]? = some (.cells (cs.setIfInBounds i v) t (0, 0)) := by
  simp only [World.setCell, Array.getElem?_modify, h]; simp
theorem set_at {cs : Array Value} {i j : Nat} {v : Value} (hi : i < cs.size) : (cs.setIfInBounds i v)[j]? = if i = j then some v else cs[j]? := by
  rw [Array.getElem?_setIfInBounds]; simp [hi]
theorem splice_at (cs : Array Value) (o : Nat) (l : List Value) (h : o + l.length ≤ cs.size) (j : Nat) :
    ((cs.toList.take o ++ l ++ cs.toList.drop (o + l.length)).toArray)[j]? = if j < o then cs[j]? else if j < o + l.length then l[j - o]? else cs[j]? := by
  have ho : min o cs.size = o := by omega
  by_cases h1 : j < o
  · rw [if_pos h1]; simp [List.getElem?_append, List.getElem?_take, h1, ho, show j < o + l.length by omega]
  · rw [if_neg h1]
    by_cases h2 : j < o + l.length
    · rw [if_pos h2]; simp [List.getElem?_append, List.getElem?_take, h1, h2, ho]; intro hh; omega
    · rw [if_neg h2]; simp [List.getElem?_append, List.getElem?_take, h1, h2, ho]
      rw [if_neg (by omega), show o + l.length + (j - o - l.length) = j by omega]
theorem size_of_cell {W : World} {b o : Nat} {v : Value} (h : W.cell? ⟨b, o, none⟩ = some v) : b < W.heap.size := by
  rcases Nat.lt_or_ge b W.heap.size with h1 | h1
  · exact h1
  · simp [World.cell?, Array.getElem?_eq_none h1] at h
end Go.Proofs.YtcdoidnfdkodoaaGreatDoor
namespace Go.Proofs.YtcdoidnfdkodoaaGreatDoor
open Go.RowKit
set_option linter.unusedVariables false
set_option linter.unusedSimpArgs false
set_option linter.unusedSectionVars false
structure Blk (W : World) (N : Nat) (t : TypeId) (cs : Array Value) : Prop where
  h : W.heap[N]? = some (.cells cs t (0, 0))
theorem Blk.lt {W : World} {N : Nat} {t : TypeId} {cs : Array Value} (k : Blk W N t cs) : N < W.heap.size := (Array.getElem?_eq_some_iff.1 k.h).1
theorem Blk.cell {W : World} {N : Nat} {t : TypeId} {cs : Array Value} (k : Blk W N t cs) {i : Nat} {v : Value} (h : cs[i]? = some v) : W.cell? ⟨N, i, none⟩ = some v := by
  simp only [World.cell?, k.h]; simpa using h
theorem Blk.fr {W : World} {N : Nat} {t : TypeId} {cs : Array Value} (k : Blk W N t cs) (i : Nat) : W.frozen? ⟨N, i, none⟩ = false := by
  simp only [World.frozen?, k.h]; simp
theorem Blk.below {W W' : World} {N n : Nat} {t : TypeId} {cs : Array Value} (k : Blk W N t cs) (b : Below n W W') (hn : N < n) : Blk W' N t cs := ⟨(b.block N hn).trans k.h⟩
theorem Blk.but {S : List Nat} {W W' : World} {N n : Nat} {t : TypeId} {cs : Array Value} (k : Blk W N t cs) (b : But S n W W') (hn : N < n) (hS : N ∉ S) : Blk W' N t cs := ⟨(b.block N hn hS).trans k.h⟩
theorem Blk.alloc {W : World} {N : Nat} {t : TypeId} {cs : Array Value} (k : Blk W N t cs) (o : Obj) : Blk (W.alloc o) N t cs := k.below ((Below.refl _ _).alloc (Nat.le_refl _) o) k.lt
theorem Blk.drew {W : World} {N : Nat} {t : TypeId} {cs : Array Value} (k : Blk W N t cs) : Blk W.drew N t cs := ⟨k.h⟩
theorem Blk.new (W : World) (t : TypeId) (cs : Array Value) : Blk (W.alloc (.cells cs t)) W.heap.size t cs := ⟨alloc_new _ _⟩
theorem Blk.set {W : World} {N : Nat} {t : TypeId} {cs : Array Value} (k : Blk W N t cs) (i : Nat) (v : Value) : Blk (W.setCell ⟨N, i, none⟩ v) N t (cs.setIfInBounds i v) := ⟨heap_set k.h⟩
theorem Blk.other {W : World} {N M : Nat} {t : TypeId} {cs : Array Value} (k : Blk W N t cs) (i : Nat) (v : Value) (h : N ≠ M) : Blk (W.setCell ⟨M, i, none⟩ v) N t cs := ⟨(Below.heap_setCell _ _ _ _ h).trans k.h⟩
theorem Blk.row {W : World} {N : Nat} {t : TypeId} {cs : Array Value} (k : Blk W N t cs) (cs2 : Array Value) : Blk (W.setRow N cs2) N t cs2 := ⟨setRow_heap _ _ _ _ _ _ k.h⟩
theorem Blk.rowOther {W : World} {N M : Nat} {t : TypeId} {cs : Array Value} (k : Blk W N t cs) (cs2 : Array Value) (h : N ≠ M) : Blk (W.setRow M cs2) N t cs := ⟨(setRow_other W M N cs2 h).trans k.h⟩
theorem below_rowNew {n : Nat} {w W : World} (b : Below n w W) {N : Nat} (h : n ≤ N) (cs : Array Value) : Below n w (W.setRow N cs) :=
  (((But.of b [N])).setRow (g := N) (by simp) cs).below (Nat.le_refl _) (by simpa using h)
theorem alloc3 (w : World) (a b c : Obj) : (((w.alloc a).alloc b).alloc c).heap[w.heap.size]? = some a ∧ (((w.alloc a).alloc b).alloc c).heap[w.heap.size + 1]? = some b ∧ (((w.alloc a).alloc b).alloc c).heap[w.heap.size + 1 + 1]? = some c := by
  have h3 := alloc_new ((w.alloc a).alloc b) c
  have h2 := alloc_new (w.alloc a) b
  have h1 := alloc_new w a
  simp only [World.size_alloc] at h2 h3
  refine ⟨?_, ?_, h3⟩
  · rw [Below.heap_alloc _ _ _ (by simp; omega), Below.heap_alloc _ _ _ (by simp)]; exact h1
  · rw [Below.heap_alloc _ _ _ (by simp)]; exact h2
end Go.Proofs.YtcdoidnfdkodoaaGreatDoor
namespace Go.Proofs.YtcdoidnfdkodoaaGreatDoor
open Go.RowKit
set_option linter.unusedVariables false
structure On where
  (k r m b x s : Int)
abbrev op6 (o : On) : Array Value := #[.int .i64 o.k, .int .i64 o.r, .int .u32 o.m, .int .i64 o.b, .int .i64 o.x, .int .u32 o.s]
abbrev opV (o : On) : Value := .agg (op6 o)
theorem run_load_row {P : Program} {ev : Operand → Value} {o : Oper} {w : World} {ty : TypeId} {x : Operand} (ho : o.op = .load ty x) {b : Nat} (hx : ev x = .pointer (some ⟨b, 0, none⟩)) (t : TypeId) (cs : Array Value) (fr : Nat × Nat) (d : TypeDesc)
    (hg : w.heap[b]? = some (.cells cs t fr)) (hu : P.underlying ty = some d) (hd : (match d with | .struct _ | .array _ _ => true | _ => false) = true) (hi : (P.info? ty).map (·.size) = some cs.size) :
    (execOp ev o).run P w = .ok (.value (.agg cs)) w := by
  unfold execOp
  simp only [ho, hx, Instr.loadAt, Instr.sureAddr, Sem.run_bind, Sem.run_pure, Result.andThen_ok, run_loadVar_row w b t ty cs fr d hg hu hd hi]
end Go.Proofs.YtcdoidnfdkodoaaGreatDoor
