/- The reference's reader: its state; bytes, words read. -/
import Derived.Test.YtlooobehlhgccaaDoorP16
namespace Go.Proofs.YtlooobehlhgccaaDoor
open Go.RowKit
set_option linter.unusedVariables false
set_option linter.unusedSimpArgs false
set_option linter.unusedSectionVars false

/-- Where a read of n bytes ends; whether it was too short. -/
def nx (zs : List Int) (p n : Nat) : Nat := min (p + n) zs.length
def so (zs : List Int) (p n : Nat) (sh : Bool) : Bool := sh || decide (zs.length < p + n)
structure Rs (W : World) (N B : Nat) (a : Option Addr) (len cap : Nat) (zs : List Int) (p : Nat) (sh bd : Bool) : Prop where
  blk : Blk W B 50 #[.slice a len cap, .int .i64 p, .bool sh, .bool bd]
  row : RowN W N a len zs
  nb : N ≤ B
  lc : len ≤ cap
  cm : cap ≤ 9223372036854775807
  pl : p ≤ len
section
variable {W W' : World} {N B : Nat} {a : Option Addr} {len cap : Nat} {zs : List Int} {p : Nat} {sh bd : Bool}
theorem Rs.lt (h : Rs W N B a len cap zs p sh bd) : B < W.heap.size := h.blk.lt
theorem Rs.c0 (h : Rs W N B a len cap zs p sh bd) : W.cell? ⟨B, 0, none⟩ = some (.slice a len cap) := h.blk.cell rfl
theorem Rs.c1 (h : Rs W N B a len cap zs p sh bd) : W.cell? ⟨B, 1, none⟩ = some (.int .i64 p) := h.blk.cell rfl
theorem Rs.c2 (h : Rs W N B a len cap zs p sh bd) : W.cell? ⟨B, 2, none⟩ = some (.bool sh) := h.blk.cell rfl
theorem Rs.c3 (h : Rs W N B a len cap zs p sh bd) : W.cell? ⟨B, 3, none⟩ = some (.bool bd) := h.blk.cell rfl
theorem Rs.but {S : List Nat} {n : Nat} (h : Rs W N B a len cap zs p sh bd) (b : But S n W W') (hB : B < n) (hS : B ∉ S) (hN : ∀ k, k ∈ S → N ≤ k) : Rs W' N B a len cap zs p sh bd :=
  ⟨h.blk.but b hB hS, h.row.but b (by have := h.nb; omega) hN, h.nb, h.lc, h.cm, h.pl⟩
theorem Rs.below {n : Nat} (h : Rs W N B a len cap zs p sh bd) (b : Below n W W') (hB : B < n) : Rs W' N B a len cap zs p sh bd :=
  h.but (But.of b []) hB (by simp) (by simp)
theorem Rs.len_eq (h : Rs W N B a len cap zs p sh bd) : zs.length = len := h.row.1
theorem Rs.set1 (h : Rs W N B a len cap zs p sh bd) (q : Nat) (hq : q ≤ len) : Rs (W.setCell ⟨B, 1, none⟩ (.int .i64 q)) N B a len cap zs q sh bd :=
  ⟨h.blk.set 1 (.int .i64 q), h.row.but ((But.refl [B] B W).setCell (p := ⟨B, 1, none⟩) (by simp) _) h.nb (by simpa using h.nb), h.nb, h.lc, h.cm, hq⟩
theorem Rs.set2 (h : Rs W N B a len cap zs p sh bd) (s : Bool) : Rs (W.setCell ⟨B, 2, none⟩ (.bool s)) N B a len cap zs p s bd :=
  ⟨h.blk.set 2 (.bool s), h.row.but ((But.refl [B] B W).setCell (p := ⟨B, 2, none⟩) (by simp) _) h.nb (by simpa using h.nb), h.nb, h.lc, h.cm, h.pl⟩
theorem Rs.set3 (h : Rs W N B a len cap zs p sh bd) (s : Bool) : Rs (W.setCell ⟨B, 3, none⟩ (.bool s)) N B a len cap zs p sh s :=
  ⟨h.blk.set 3 (.bool s), h.row.but ((But.refl [B] B W).setCell (p := ⟨B, 3, none⟩) (by simp) _) h.nb (by simpa using h.nb), h.nb, h.lc, h.cm, h.pl⟩
theorem Rs.other (h : Rs W N B a len cap zs p sh bd) {K i : Nat} {v : Value} (hK : N ≤ K) (hne : B ≠ K) : Rs (W.setCell ⟨K, i, none⟩ v) N B a len cap zs p sh bd :=
  ⟨h.blk.other i v hne, h.row.but ((But.refl [K] N W).setCell (p := ⟨K, i, none⟩) (by simp) _) (Nat.le_refl _) (by simpa using hK), h.nb, h.lc, h.cm, h.pl⟩
theorem Rs.drew (h : Rs W N B a len cap zs p sh bd) : Rs W.drew N B a len cap zs p sh bd := ⟨h.blk.drew, h.row, h.nb, h.lc, h.cm, h.pl⟩
theorem Rs.alloc (h : Rs W N B a len cap zs p sh bd) (o : Obj) : Rs (W.alloc o) N B a len cap zs p sh bd := h.below ((Below.refl _ _).alloc (Nat.le_refl _) o) h.lt
/-- A byte of them. -/
theorem Rs.byte (h : Rs W N B a len cap zs p sh bd) (i : Nat) (hi : i < len) : ∃ b off, a = some ⟨b, off, none⟩ ∧ W.cell? ⟨b, off + i, none⟩ = some (.int .u8 (zs.getD i 0)) := by
  obtain ⟨h1, h2, h3⟩ := h.row
  rcases h3 with rfl | ⟨b, off, e, -, hc⟩
  · simp at h1; omega
  · exact ⟨b, off, e, hc i hi⟩
end
section
variable {w : World} {N B : Nat} {a : Option Addr} {len cap : Nat} {zs : List Int} {p : Nat} {sh bd : Bool}
theorem byte_no (R : Rs w N B a len cap zs p sh bd) (h : ¬ p + 1 ≤ len) :
    Calls Tryd.prog 19 #[rp B] w fun e w' => e = .returned (.int .u8 0) ∧ Rs w' N B a len cap zs p true bd ∧ But [B] w.heap.size w w' := by
  have c0 := R.c0
  have c1 := R.c1
  have c2 := R.c2
  have hm := R.cm
  have hlc := R.lc
  have hpl := R.pl
  have hz : ((len : Int) ≤ p) = True := eq_true (by omega)
  have hf := R.blk.fr 2
  have R1 := (R.drew).set2 true
  have kb : But [B] w.heap.size w (w.drew.setCell ⟨B, 2, none⟩ (.bool true)) := ((But.refl _ _ _).drew).setCell (by simp) _
  go_enter Tryd.func19, Tryd.ntmps19
  go_wp2_with fail
  go_region
  go_wp2_with fail
  go_ret
  exact ⟨rfl, R1, kb⟩
theorem byte_yes (R : Rs w N B a len cap zs p sh bd) (h : p + 1 ≤ len) :
    Calls Tryd.prog 19 #[rp B] w fun e w' => e = .returned (.int .u8 (zs.getD p 0)) ∧ Rs w' N B a len cap zs (p + 1) sh bd ∧ But [B] w.heap.size w w' := by
  obtain ⟨b, off, rfl, hc⟩ := R.byte p (by omega)
  have c0 := R.c0
  have c1 := R.c1
  have hm := R.cm
  have hlc := R.lc
  have hpl := R.pl
  have hz : ((len : Int) ≤ p) = False := eq_false (by omega)
  have hf := R.blk.fr 1
  have R1 := (R.drew.drew).set1 (p + 1) (by omega)
  have kb : But [B] w.heap.size w (w.drew.drew.setCell ⟨B, 1, none⟩ (.int .i64 ((p + 1 : Nat) : Int))) := ((But.refl _ _ _).drew.drew).setCell (by simp) _
  rw [Int.natCast_add] at R1 kb
  have hwp : IntKind.i64.wrap ((p : Int) + 1) = p + 1 := by rw [IntKind.wrap_i64]; omega
  generalize zs.getD p 0 = z at *
  go_enter Tryd.func19, Tryd.ntmps19
  go_wp2_with fail
  go_region
  go_wp2_with fail
  go_region
  go_wp2_with fail
  go_ret
  exact ⟨rfl, R1, kb⟩
theorem byte_any (R : Rs w N B a len cap zs p sh bd) :
    Calls Tryd.prog 19 #[rp B] w fun e w' => e = .returned (.int .u8 (zs.getD p 0)) ∧ Rs w' N B a len cap zs (nx zs p 1) (so zs p 1 sh) bd ∧ But [B] w.heap.size w w' := by
  have hl := R.len_eq
  have hp := R.pl
  by_cases h : p + 1 ≤ len
  · rw [show nx zs p 1 = p + 1 by unfold nx; omega, show so zs p 1 sh = sh by unfold so; rw [decide_eq_false (by omega)]; simp]
    exact byte_yes R h
  · rw [show nx zs p 1 = p by unfold nx; omega, show so zs p 1 sh = true by unfold so; rw [decide_eq_true (by omega)]; simp,
      show zs.getD p 0 = 0 by rw [List.getD_eq_getElem?_getD, List.getElem?_eq_none (by omega)]; rfl]
    exact byte_no R h
theorem byte_bd (R : Rs w N B a len cap zs p sh bd) (q : Nat) : 0 ≤ zs.getD q 0 ∧ zs.getD q 0 ≤ 255 := getD_bd R.row.2.1 q
theorem ret_u32 {x y : Int} (h : x = y) : Ending.returned (.int .u32 x) = Ending.returned (.int .u32 y) := by rw [h]
theorem small_any (R : Rs w N B a len cap zs p sh bd) :
    Calls Tryd.prog 24 #[rp B] w fun e w' => e = .returned (.int .u32 (sx (zs.getD p 0))) ∧ Rs w' N B a len cap zs (nx zs p 1) (so zs p 1 sh) bd ∧ But [B] w.heap.size w w' := by
  have hb := Lib.hid (byte_any R)
  have bz := byte_bd R p
  have hw : wrap32 (IntKind.i8.wrap (zs.getD p 0)) % 4294967296 = sx (zs.getD p 0) := by
    have : ∀ n : Int, IntKind.i8.wrap n = (n + 128) % 256 - 128 := fun n => by
      simp only [IntKind.wrap, IntKind.bits, IntKind.signed]
      simp
      split <;> omega
    unfold sx
    rw [this]
    unfold wrap32
    omega
  generalize hsx : sx (zs.getD p 0) = s at *
  generalize zs.getD p 0 = z at *
  go_enter Tryd.func24, Tryd.ntmps24
  go_wp2_with ((with_reducible refine hb.out.mono ?_); rintro e w1 ⟨rfl, R1, k1⟩)
  go_ret
  exact ⟨ret_u32 hw, R1, k1⟩
def le4n (zs : List Int) (p k : Nat) : Int := if k = 0 then 0 else if k = 1 then zs.getD p 0 else if k = 2 then zs.getD p 0 + zs.getD (p + 1) 0 * 256 else if k = 3 then zs.getD p 0 + zs.getD (p + 1) 0 * 256 + zs.getD (p + 2) 0 * 65536 else le4 zs p
theorem getD_over (zs : List Int) {p : Nat} (h : zs.length ≤ p) : zs.getD p 0 = 0 := by rw [List.getD_eq_getElem?_getD, List.getElem?_eq_none h]; rfl
theorem nx_get (zs : List Int) (p k : Nat) : zs.getD (nx zs p k) 0 = zs.getD (p + k) 0 := by
  unfold nx
  by_cases h : p + k ≤ zs.length
  · rw [Nat.min_eq_left h]
  · rw [Nat.min_eq_right (by omega), getD_over zs (Nat.le_refl _), getD_over zs (by omega)]
theorem nx_nx (zs : List Int) (p k n : Nat) : nx zs (nx zs p k) n = nx zs p (k + n) := by unfold nx; omega
theorem so_so (zs : List Int) (p k n : Nat) (sh : Bool) (hp : p ≤ zs.length) : so zs (nx zs p k) n (so zs p k sh) = so zs p (k + n) sh := by
  unfold so nx
  cases sh
  · simp
    by_cases h1 : zs.length < p + k
    · simp [h1]; omega
    · simp [h1]; omega
  · simp
theorem le4n_step (zs : List Int) (hz : ∀ z ∈ zs, 0 ≤ z ∧ z ≤ 255) (p k : Nat) (hk : k < 4) : bits .or .u32 (le4n zs p k) (zs.getD (p + k) 0 * 2 ^ (8 * k) % 4294967296) = le4n zs p (k + 1) := by
  have b0 := getD_bd hz p
  have b1 := getD_bd hz (p + 1)
  have b2 := getD_bd hz (p + 2)
  have b3 := getD_bd hz (p + 3)
  have e0 : le4n zs p 0 = 0 := rfl
  have e1 : le4n zs p 1 = zs.getD p 0 := rfl
  have e2 : le4n zs p 2 = zs.getD p 0 + zs.getD (p + 1) 0 * 256 := rfl
  have e3 : le4n zs p 3 = zs.getD p 0 + zs.getD (p + 1) 0 * 256 + zs.getD (p + 2) 0 * 65536 := rfl
  have e4 : le4n zs p 4 = zs.getD p 0 + zs.getD (p + 1) 0 * 256 + zs.getD (p + 2) 0 * 65536 + zs.getD (p + 3) 0 * 16777216 := rfl
  have q0 : (2 : Int) ^ (8 * 0) = 1 := by decide
  have q1 : (2 : Int) ^ (8 * 1) = 256 := by decide
  have q2 : (2 : Int) ^ (8 * 2) = 65536 := by decide
  have q3 : (2 : Int) ^ (8 * 3) = 16777216 := by decide
  obtain rfl | rfl | rfl | rfl : k = 0 ∨ k = 1 ∨ k = 2 ∨ k = 3 := by omega
  · rw [or_byte _ _ _ (by decide) (by rw [e0, q0]; decide) (getD_bd hz _), e0, e1, q0]; simp only [Nat.add_zero]; omega
  · rw [or_byte _ _ _ (by decide) (by rw [e1, q1]; omega) (getD_bd hz _), e1, e2, q1]
  · rw [or_byte _ _ _ (by decide) (by rw [e2, q2]; omega) (getD_bd hz _), e2, e3, q2]
  · rw [or_byte _ _ _ (by decide) (by rw [e3, q3]; omega) (getD_bd hz _), e3, e4, q3]
theorem word_ref (R : Rs w N B a len cap zs p sh bd) :
    Calls Tryd.prog 25 #[rp B] w fun e w' => e = .returned (.int .u32 (le4 zs p)) ∧ Rs w' N B a len cap zs (nx zs p 4) (so zs p 4 sh) bd ∧ But [B] w.heap.size w w' := by
  have hzb := R.row.2.1
  have hp := R.pl
  have hl := R.len_eq
  have hst := fun k hk => le4n_step zs hzb p k hk
  have s0 : nx zs p 0 = p := by unfold nx; omega
  have s1 : so zs p 0 sh = sh := by unfold so; simp; omega
  have R0 : Rs w N B a len cap zs (nx zs p 0) (so zs p 0 sh) bd := by rw [s0, s1]; exact R
  go_enter Tryd.func25, Tryd.ntmps25
  go_wp2_with fail
  go_loopw [3, 4] (fun v i W => ∃ k : Nat, k ≤ 4 ∧ v = .int .u32 (le4n zs p k) ∧ i = .int .i64 k ∧ Rs W N B a len cap zs (nx zs p k) (so zs p k sh) bd ∧ But [B] w.heap.size w W) (fun _ i _ => 4 - (intOf i).toNat)
  case atStart => exact ⟨0, by omega, rfl, rfl, R0, But.refl _ _ _⟩
  case round =>
    obtain ⟨k, hk, hv, hi, Rk, bk⟩ := hrel
    obtain rfl : _ = Value.int .i64 (k : Int) := hi
    obtain rfl : _ = Value.int .u32 (le4n zs p k) := hv
    by_cases hk4 : k < 4
    · have hz : ((k : Int) < 4) = True := eq_true (by omega)
      have hB := Lib.hid (byte_any Rk)
      rw [nx_get, nx_nx, so_so _ _ _ _ _ (by omega)] at hB
      have hor := hst k hk4
      have hz2 := getD_bd hzb (p + k)
      have hwr : IntKind.i64.wrap ((k : Int) + 1) = (k : Int) + 1 := by rw [IntKind.wrap_i64]; omega
      clear hst hzb
      generalize zs.getD (p + k) 0 = z at *
      generalize hv2 : le4n zs p (k + 1) = v2 at *
      generalize le4n zs p k = v at *
      go_wp2_with ((with_reducible refine hB.out.mono ?_); rintro e w1 ⟨rfl, R1, k1⟩)
      go_roundw
      case rel => exact ⟨k + 1, by omega, by rw [hv2], by go_num, R1, bk.trans (k1.mono bk.size (fun _ h => .inl h))⟩
      case measure => simp [intOf]; omega
    · have hz : ((k : Int) < 4) = False := eq_false (by omega)
      obtain rfl : k = 4 := by omega
      go_wp2_with fail
      go_ret
      exact ⟨rfl, Rk, bk⟩
end
theorem reg_any (r : Int) (w : World) : Calls Tryd.prog 22 #[.int .i64 r] w fun e w' => e = .returned (opV (onReg r)) ∧ Below w.heap.size w w' := by
  have kx := (Below.refl w.heap.size w).alloc (Nat.le_refl _) (.cells (op6 (onReg r)) 26)
  go_enter Tryd.func22, Tryd.ntmps22
  go_wp2
  exact bodyPost_ret (v := opV (onReg r)) (by simp [results, Tryd.results22, go_sem, onReg]) rfl ⟨rfl, kx⟩
theorem imm_any (n : Int) (w : World) : Calls Tryd.prog 23 #[.int .u32 n] w fun e w' => e = .returned (opV (onImm n)) ∧ Below w.heap.size w w' := by
  have kx := (Below.refl w.heap.size w).alloc (Nat.le_refl _) (.cells (op6 (onImm n)) 26)
  go_enter Tryd.func23, Tryd.ntmps23
  go_wp2
  exact bodyPost_ret (v := opV (onImm n)) (by simp [results, Tryd.results23, go_sem, onImm]) rfl ⟨rfl, kx⟩
abbrev gA : Array Value := #[.int .i64 3, .int .i64 4, .int .i64 5, .int .i64 6, .int .i64 7, .int .i64 8, .int .i64 9, .int .i64 10]
abbrev sA : Array Value := #[.int .i64 21, .int .i64 22, .int .i64 0, .int .i64 0, .int .i64 23, .int .i64 24, .int .i64 0, .int .i64 25]
abbrev nA : Array Value := #[.int .i64 47, .int .i64 48, .int .i64 53, .int .i64 0, .int .i64 49, .int .i64 0, .int .i64 50, .int .i64 0]
def shN (n : Int) : Int := [21, 22, 0, 0, 23, 24, 0, 25].getD n.toNat 0
def nuN (n : Int) : Int := [47, 48, 53, 0, 49, 0, 50, 0].getD n.toNat 0
theorem groups_ref (w : World) : Calls Tryd.prog 21 #[] w fun e w' => e = .returned (.agg gA) ∧ Below w.heap.size w w' := by
  have kx := (Below.refl w.heap.size w).alloc (Nat.le_refl _) (.cells gA 40)
  go_enter Tryd.func21, Tryd.ntmps21
  go_wp2
  exact bodyPost_ret (v := .agg gA) (by simp [results, Tryd.results21, go_sem]) rfl ⟨rfl, kx⟩
theorem shifts_ref (w : World) : Calls Tryd.prog 34 #[] w fun e w' => e = .returned (.agg sA) ∧ Below w.heap.size w w' := by
  have kx := (Below.refl w.heap.size w).alloc (Nat.le_refl _) (.cells sA 40)
  go_enter Tryd.func34, Tryd.ntmps34
  go_wp2
  exact bodyPost_ret (v := .agg sA) (by simp [results, Tryd.results34, go_sem]) rfl ⟨rfl, kx⟩
theorem numbers_ref (w : World) : Calls Tryd.prog 45 #[] w fun e w' => e = .returned (.agg nA) ∧ Below w.heap.size w w' := by
  have kx := (Below.refl w.heap.size w).alloc (Nat.le_refl _) (.cells nA 40)
  go_enter Tryd.func45, Tryd.ntmps45
  go_wp2
  exact bodyPost_ret (v := .agg nA) (by simp [results, Tryd.results45, go_sem]) rfl ⟨rfl, kx⟩
/-- Where a call that reads has its result's block: what was there is there. -/
structure RF (w W : World) (N B : Nat) (a : Option Addr) (len cap : Nat) (zs : List Int) (p : Nat) (sh bd : Bool) (t : TypeId) (cs : Array Value) : Prop where
  r : Rs W N B a len cap zs p sh bd
  k : But [B] w.heap.size w W
  z : Blk W w.heap.size t cs
  hB : B < w.heap.size
section
variable {w W W' : World} {N B : Nat} {a : Option Addr} {len cap : Nat} {zs : List Int} {p : Nat} {sh bd : Bool} {t : TypeId} {cs : Array Value}
theorem RF.start (R : Rs w N B a len cap zs p sh bd) (t : TypeId) (cs : Array Value) : RF w (w.alloc (.cells cs t)) N B a len cap zs p sh bd t cs :=
  ⟨R.alloc _, (But.refl _ _ _).alloc (Nat.le_refl _) _, Blk.new _ _ _, R.lt⟩
theorem RF.drew (h : RF w W N B a len cap zs p sh bd t cs) : RF w W.drew N B a len cap zs p sh bd t cs := ⟨h.r.drew, h.k.drew, h.z.drew, h.hB⟩
theorem RF.lt (h : RF w W N B a len cap zs p sh bd t cs) : w.heap.size < W.heap.size := h.z.lt
theorem RF.cell (h : RF w W N B a len cap zs p sh bd t cs) {K : Nat} (hK : w.heap.size < K) (i : Nat) (v : Value) : RF w (W.setCell ⟨K, i, none⟩ v) N B a len cap zs p sh bd t cs :=
  ⟨h.r.other (by have := h.hB; have := h.r.nb; omega) (by have := h.hB; omega), h.k.trans ((But.cell1 W K i v).mono h.k.size (by simp; omega)), h.z.other i v (by omega), h.hB⟩
/-- A call that reads on. -/
theorem RF.read (h : RF w W N B a len cap zs p sh bd t cs) {q : Nat} {s b : Bool} (R : Rs W' N B a len cap zs q s b) (k : But [B] W.heap.size W W') : RF w W' N B a len cap zs q s b t cs :=
  ⟨R, h.k.trans (k.mono h.k.size (fun _ h => .inl h)), h.z.but k h.lt (by have := h.hB; simp; omega), h.hB⟩
/-- A field of the reader is set. -/
theorem RF.setBad (h : RF w W N B a len cap zs p sh bd t cs) (s : Bool) : RF w (W.setCell ⟨B, 3, none⟩ (.bool s)) N B a len cap zs p sh s t cs :=
  ⟨h.r.set3 s, h.k.setCell (by simp) _, h.z.other 3 _ (by have := h.hB; omega), h.hB⟩
theorem RF.setShort (h : RF w W N B a len cap zs p sh bd t cs) (s : Bool) : RF w (W.setCell ⟨B, 2, none⟩ (.bool s)) N B a len cap zs p s bd t cs :=
  ⟨h.r.set2 s, h.k.setCell (by simp) _, h.z.other 2 _ (by have := h.hB; omega), h.hB⟩
/-- What lies behind is turned alone. -/
theorem RF.but (h : RF w W N B a len cap zs p sh bd t cs) {S : List Nat} (k : But S W.heap.size W W') (hS : ∀ x, x ∈ S → w.heap.size < x) : RF w W' N B a len cap zs p sh bd t cs :=
  ⟨h.r.but k h.r.lt (fun hm => by have := hS _ hm; have := h.hB; omega) (fun x hx => by have := hS _ hx; have := h.hB; have := h.r.nb; omega), h.k.trans (k.mono h.k.size (fun x hx => .inr (by have := hS _ hx; omega))), h.z.but k h.lt (fun hm => by have := hS _ hm; omega), h.hB⟩
theorem RF.below (h : RF w W N B a len cap zs p sh bd t cs) (k : Below W.heap.size W W') : RF w W' N B a len cap zs p sh bd t cs := h.but (But.of k []) (by simp)
/-- The result is written. -/
theorem RF.done (h : RF w W N B a len cap zs p sh bd t cs) {cs' : Array Value} (z : Blk W' w.heap.size t cs') (k : But [w.heap.size] W.heap.size W W') : RF w W' N B a len cap zs p sh bd t cs' :=
  ⟨h.r.but k h.r.lt (by have := h.hB; simp; omega) (by have := h.hB; have := h.r.nb; simp; omega), h.k.trans (k.mono h.k.size (by simp)), z, h.hB⟩
end
end Go.Proofs.YtlooobehlhgccaaDoor
