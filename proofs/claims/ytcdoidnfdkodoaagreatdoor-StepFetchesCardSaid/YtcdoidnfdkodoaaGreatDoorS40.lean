import Derived.Test.YtcdoidnfdkodoaaGreatDoorS39
import Derived.Test.YtcdoidnfdkodoaaGreatDoorS16
namespace Go.Proofs.YtcdoidnfdkodoaaGreatDoor
open Go.RowKit
set_option linter.unusedVariables false
set_option maxRecDepth 20000
set_option linter.unusedSimpArgs false
set_option linter.unusedSectionVars false
theorem szFA (g : Nat → Bool) : (Tryz.prog.info? 26).map (·.size) = some (fl6 g).size := by kernel_rfl
theorem store_fl {ops : Array Oper} {rest : List Oper} {o : Oper} {a : Act} {w : World} {Q : Exit → Act → World → Prop} (hgd : o.guard = none) (x y : Operand) (ho : o.op = .store 26 x y)
    (N : Nat) (g old : Nat → Bool) (hx : a.eval x = .pointer (some ⟨N, 0, none⟩)) (hy : a.eval y = flV g) (k : Blk w N 26 (fl6 old))
    (h : wpList Tryz.prog ops Q rest (a.put o.dst undef) (w.setRow N (fl6 g))) : wpList Tryz.prog ops Q (o :: rest) a w :=
  wpList_store_row hgd 26 x y ho N (fl6 g) hx hy 26 (fl6 old) k.h (szFA g) rfl (fl6_one g) h
theorem store_flv {ops : Array Oper} {rest : List Oper} {o : Oper} {a : Act} {w : World} {Q : Exit → Act → World → Prop} (hgd : o.guard = none) (x y : Operand) (ho : o.op = .store 26 x y)
    (N : Nat) (v : Value) (g old : Nat → Bool) (hx : a.eval x = .pointer (some ⟨N, 0, none⟩)) (hy : a.eval y = v) (hv : v = flV g) (k : Blk w N 26 (fl6 old))
    (h : wpList Tryz.prog ops Q rest (a.put o.dst undef) (w.setRow N (fl6 g))) : wpList Tryz.prog ops Q (o :: rest) a w :=
  store_fl hgd x y ho N g old hx (hy.trans hv) k h
theorem load_fl {ops : Array Oper} {rest : List Oper} {o : Oper} {a : Act} {w : World} {Q : Exit → Act → World → Prop} (hgd : o.guard = none) (x : Operand) (ho : o.op = .load 26 x)
    (N : Nat) (g : Nat → Bool) (hx : a.eval x = .pointer (some ⟨N, 0, none⟩)) (k : Blk w N 26 (fl6 g))
    (h : wpList Tryz.prog ops Q rest (a.put o.dst (flV g)) w) : wpList Tryz.prog ops Q (o :: rest) a w :=
  wpList_load_row hgd 26 x ho N hx 26 (fl6 g) (0, 0) _ k.h Tryz.underlying26 rfl (szFA g) h
theorem run_load_fl {N : Nat} {g : Nat → Bool} {w : World} (k : Blk w N 26 (fl6 g)) : (loadVar 26 ⟨N, 0, none⟩).run Tryz.prog w = .ok (flV g) w :=
  run_loadVar_row w N 26 26 (fl6 g) (0, 0) _ k.h Tryz.underlying26 rfl (szFA g)
theorem res_c {fn : Func} {p : Tmp} (h : fn.results = #[.cell p 26]) (tmps : Array Value) (w : World) (N : Nat) (g : Nat → Bool)
    (hp : tmps.getD p undef = .pointer (some ⟨N, 0, none⟩)) (k : Blk w N 26 (fl6 g)) : (results fn tmps).run Tryz.prog w = .ok (flV g) w := by
  have hp' : tmps[p]?.getD undef = .pointer (some ⟨N, 0, none⟩) := by simpa using hp
  simp [results, h, hp', asAddr, run_load_fl k]
theorem res_sc {fn : Func} {q p : Tmp} (h : fn.results = #[.tmp q, .cell p 26]) (tmps : Array Value) (w : World) (N : Nat) (g : Nat → Bool) (v : Value)
    (hq : tmps.getD q undef = v) (hp : tmps.getD p undef = .pointer (some ⟨N, 0, none⟩)) (k : Blk w N 26 (fl6 g)) : (results fn tmps).run Tryz.prog w = .ok (.tuple #[v, flV g]) w := by
  have hp' : tmps[p]?.getD undef = .pointer (some ⟨N, 0, none⟩) := by simpa using hp
  have hq' : tmps[q]?.getD undef = v := by simpa using hq
  simp [results, h, hp', hq', asAddr, run_load_fl k]
end Go.Proofs.YtcdoidnfdkodoaaGreatDoor
namespace Go.Proofs.YtcdoidnfdkodoaaGreatDoor
open Go.RowKit
set_option linter.unusedVariables false
set_option maxRecDepth 20000
set_option linter.unusedSimpArgs false
set_option linter.unusedSectionVars false
def bitB (x : Int) (k : Nat) : Bool := x / 2 ^ k % 2 != 0
theorem bit_any (x : Int) (k : Nat) (h : 0 ≤ x ∧ x ≤ 4294967295) (hk : k ≤ 32) (w : World) : Calls Tryz.prog 234 #[.int .u32 x, .int .i64 (k : Int)] w fun e w' => e = .returned (.bool (bitB x k)) ∧ w = w' := by
  have hf := fun w => field_any x k 1 h (by omega) w
  rw [field_one x k hk] at hf
  go_enter Tryz.func234, Tryz.ntmps234
  go_wp2_with (first | (go_at_call 251; refine (hf _).mono ?_; rintro e w' ⟨rfl, rfl⟩))
  go_ret
  exact ⟨rfl, rfl⟩
theorem bit_4 (x : Int) (h : 0 ≤ x ∧ x ≤ 4294967295) (w : World) : Calls Tryz.prog 234 #[.int .u32 x, .int .i64 4] w fun e w' => e = .returned (.bool (bitB x 4)) ∧ w = w' := bit_any x 4 h (by decide) w
theorem bit_31 (x : Int) (h : 0 ≤ x ∧ x ≤ 4294967295) (w : World) : Calls Tryz.prog 234 #[.int .u32 x, .int .i64 31] w fun e w' => e = .returned (.bool (bitB x 31)) ∧ w = w' := bit_any x 31 h (by decide) w
def resF (r : Int) : Nat → Bool
  | 1 => evenS r.toNat 8 | 3 => r == 0 | 4 => bitB r 31 | _ => false
theorem byResult_any (r : Int) (h : 0 ≤ r ∧ r ≤ 4294967295) (w : World) : Calls Tryz.prog 233 #[.int .u32 r] w fun e w' => e = .returned (flV (resF r)) ∧ Below w.heap.size w w' := by
  have hp := fun w => parity_any r h w
  have hb := fun w => bit_31 r h w
  rw [show flV (resF r) = .agg #[.bool false, .bool (evenS r.toNat 8), .bool false, .bool (r == 0), .bool (bitB r 31), .bool false] from rfl]
  generalize evenS r.toNat 8 = p at *
  generalize bitB r 31 = q at *
  go_enter Tryz.func233, Tryz.ntmps233
  go_wp2_with (first | (go_at_call 234; refine (hb _).mono ?_; rintro e w' ⟨rfl, rfl⟩) | (go_at_call 252; refine (hp _).mono ?_; rintro e w' ⟨rfl, rfl⟩))
  refine bodyPost_ret (v := .agg #[.bool false, .bool p, .bool false, .bool (r == 0), .bool q, .bool false]) (by simp [results, Tryz.results233, go_sem]) rfl ⟨rfl, ?_⟩
  exact (Below.refl _ _).alloc (Nat.le_refl _) _
def sumF (x r : Int) (c o : Bool) : Nat → Bool
  | 0 => c | 1 => evenS r.toNat 8 | 2 => !(bitB x 4 == bitB r 4) | 3 => r == 0 | 4 => bitB r 31 | _ => o
theorem byCarries_any (x r : Int) (c o : Bool) (hx : 0 ≤ x ∧ x ≤ 4294967295) (h : 0 ≤ r ∧ r ≤ 4294967295) (w : World) :
    Calls Tryz.prog 254 #[.int .u32 x, .int .u32 r, .bool c, .bool o] w fun e w' => e = .returned (flV (sumF x r c o)) ∧ Below w.heap.size w w' := by
  have hr := fun w => byResult_any r h w
  rw [show flV (resF r) = .agg #[.bool false, .bool (evenS r.toNat 8), .bool false, .bool (r == 0), .bool (bitB r 31), .bool false] from rfl] at hr
  rw [show flV (sumF x r c o) = .agg #[.bool c, .bool (evenS r.toNat 8), .bool (!(bitB x 4 == bitB r 4)), .bool (r == 0), .bool (bitB r 31), .bool o] from rfl]
  have h4 := fun w => bit_4 r h w
  have x4 := fun w => bit_4 x hx w
  obtain ⟨g, hg⟩ : ∃ g : Nat → Bool, g = sumF x r c o := ⟨_, rfl⟩
  rw [show (Value.agg #[.bool c, .bool (evenS r.toNat 8), .bool (!(bitB x 4 == bitB r 4)), .bool (r == 0), .bool (bitB r 31), .bool o]) = flV g from by rw [hg]; rfl]
  have hv := Lib.hid (show flV g = (Value.agg #[.bool c, .bool (evenS r.toNat 8), .bool (!(bitB x 4 == bitB r 4)), .bool (r == 0), .bool (bitB r 31), .bool o]) from by rw [hg]; rfl)
  clear hg
  generalize evenS r.toNat 8 = p at *
  generalize bitB r 31 = q at *
  generalize bitB r 4 = q4 at *
  generalize bitB x 4 = p4 at *
  generalize (r == 0) = z at *
  replace hr := Lib.hid hr
  have kR := Blk.new w 26 (fl6 fun _ => false)
  go_enter Tryz.func254, Tryz.ntmps254
  go_wp2_with fail
  refine (hr.out _).mono ?_
  rintro e w1 ⟨rfl, bb⟩
  replace kR := kR.below bb (by simp)
  have kb : Below w.heap.size w w1 := ((Below.refl _ _).alloc (Nat.le_refl _) _).trans (bb.mono (by simp))
  clear bb
  have hSB := kb.size
  generalize hN : w.heap.size = N at *
  go_wp2_with (first | (go_at_call 234; refine (h4 _).mono ?_; rintro e w' ⟨rfl, rfl⟩) | (go_at_call 234; refine (x4 _).mono ?_; rintro e w' ⟨rfl, rfl⟩) | (with_reducible refine store_flv rfl _ _ rfl N (.agg #[.bool c, .bool p, .bool (!(p4 == q4)), .bool z, .bool q, .bool o]) g (fun _ => false) rfl rfl hv.out.symm (kR.alloc _) ?_))
  exact bodyPost_ret (v := flV g) (res_c rfl _ _ N g rfl ((kR.alloc _).row _)) rfl ⟨rfl, by rw [hN]; exact below_rowNew (kb.alloc hSB _) (N := N) (by omega) _⟩
def addR (a b : Int) (c : Bool) : Int := (a + b + c01 c) % 4294967296
def addK (a b : Int) (c : Bool) : Bool := a + b + c01 c != (a + b + c01 c) % 4294967296
def addO (a b : Int) (c : Bool) : Bool := wrap32 a + wrap32 b + c01 c != wrap32 (wrap32 a + wrap32 b + c01 c)
def addF (a b : Int) (c : Bool) : Nat → Bool := sumF (bits .xor .u32 a b) (addR a b c) (addK a b c) (addO a b c)
theorem addR_bd (a b : Int) (c : Bool) : 0 ≤ addR a b c ∧ addR a b c ≤ 4294967295 := by unfold addR; omega
theorem xor_bd {a b : Int} (h : 0 ≤ a ∧ a ≤ 4294967295) (hb : 0 ≤ b ∧ b ≤ 4294967295) : 0 ≤ bits .xor .u32 a b ∧ bits .xor .u32 a b ≤ 4294967295 := by
  obtain ⟨A, rfl⟩ := Int.eq_ofNat_of_zero_le h.1
  obtain ⟨B, rfl⟩ := Int.eq_ofNat_of_zero_le hb.1
  rw [u32_xor_nat' A B (by omega) (by omega)]
  have := xor_lt32 (a := A) (b := B) (by omega) (by omega)
  omega
theorem sum_any (a b : Int) (c : Bool) (h : 0 ≤ a ∧ a ≤ 4294967295) (hb : 0 ≤ b ∧ b ≤ 4294967295) (w : World) :
    Calls Tryz.prog 235 #[.int .u32 a, .int .u32 b, .bool c] w fun e w' => e = .returned (.tuple #[.int .u32 (addR a b c), flV (addF a b c)]) ∧ Below w.heap.size w w' := by
  have hx := xor_bd h hb
  have qA : ∀ w, Calls Tryz.prog 253 #[.int .u32 a, .int .u32 b, .bool c] w fun e w' => e = .returned (.tuple #[.int .u32 (addR a b c), .bool (addK a b c), .bool (addO a b c)]) ∧ w = w' := fun w => addC_any a b c h hb w
  have qB := fun w => byCarries_any (bits .xor .u32 a b) (addR a b c) (addK a b c) (addO a b c) hx (addR_bd a b c) w
  rw [show sumF (bits .xor .u32 a b) (addR a b c) (addK a b c) (addO a b c) = addF a b c from rfl] at qB
  have hR := addR_bd a b c
  generalize addF a b c = g at *
  generalize addR a b c = R at *
  generalize addK a b c = K at *
  generalize addO a b c = O at *
  obtain ⟨X, hX⟩ : ∃ X, bits .xor .u32 a b = X := ⟨_, rfl⟩
  rw [hX] at qB hx
  replace qA := Lib.hid qA
  replace qB := Lib.hid qB
  have kR := Blk.new w 26 (fl6 fun _ => false)
  go_enter Tryz.func235, Tryz.ntmps235
  go_wp2_with (first | (with_reducible refine (qA.out _).mono ?_; rintro e w1 ⟨rfl, rfl⟩) | (with_reducible refine (qB.out _).mono ?_; rintro e w2 ⟨rfl, bb⟩) | (with_reducible refine store_fl rfl _ _ rfl w.heap.size g (fun _ => false) rfl rfl (kR.below bb (by simp)) ?_))
  refine bodyPost_ret (v := .tuple #[.int .u32 R, flV g]) (res_sc rfl _ _ w.heap.size g _ rfl rfl ((kR.below bb (by simp)).row _)) rfl ⟨rfl, ?_⟩
  exact below_rowNew (((Below.refl _ _).alloc (Nat.le_refl _) _).trans (bb.mono (by simp))) (N := w.heap.size) (Nat.le_refl _) _
end Go.Proofs.YtcdoidnfdkodoaaGreatDoor
