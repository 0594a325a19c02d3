/- OperandBytes: its calls' contracts. -/
import Derived.Test.YtmlaancmacipoaaG7
import Derived.Test.YtmlaancmacipoaaS2
import Derived.Test.YtmlaancmacipoaaWf
namespace Go.Proofs.Ytmlaancmacipoaa
open Go.RowKit
set_option linter.unusedVariables false
set_option linter.unusedSimpArgs false
set_option linter.unusedSectionVars false

def kB : Mm := mapS Mm.new 0 2 3
theorem kB_ok : kB.ok := mapS_ok new_okM 0 2 3
theorem kB_map : mapE Mm.new 0 2 3 = true := by kernel_rfl
theorem kB_r : kB.r 0 = 3 ∧ kB.r 1 = 3 := by refine ⟨?_, ?_⟩ <;> kernel_rfl
theorem wrote_r (m : Mm) (A : Nat) (n v : Int) : (wroteS m A n v).r = m.r := rfl
theorem lackP_B {m : Mm} (hm : m.r = kB.r) {A r : Int} (hA : 0 ≤ A ∧ A < 256) (hr : r = 1 ∨ r = 2) {i : Nat} (hi : i < 4) : lackP m A r i = false := by
  unfold lackP
  rw [hm]
  have h : ((A + i) % 4294967296 / 256).toNat = 0 ∨ ((A + i) % 4294967296 / 256).toNat = 1 := by omega
  rcases h with h | h <;> rcases hr with rfl | rfl <;> rw [h] <;> simp [kB_r]
theorem lackL_B {m : Mm} (hm : m.r = kB.r) {A r : Int} (hA : 0 ≤ A ∧ A < 256) (hr : r = 1 ∨ r = 2) : ∀ n, n ≤ 4 → lackL m A r n = none
  | 0, _ => rfl
  | n + 1, h => by simp [lackL, lackL_B hm hA hr n (by omega), lackP_B hm hA hr (show n < 4 by omega)]
theorem ok_B {m : Mm} (ok : m.ok) (hm : m.r = kB.r) {A : Nat} (hA : A < 256) (n v : Int) : (wroteS m A n v).ok := by
  have h := wroteM_ok ok (A : Int) (by constructor <;> omega) n v
  have e : wroteM m (A : Int) n v = wroteS m A n v := by
    unfold wroteM
    rw [lackL_B hm (by omega) (.inr rfl) _ (num_bd n).2]
    rfl
  rwa [e] at h
theorem bytes_there (m : Mm) (A : Nat) (n v : Int) (i : Nat) (h : i < numL n) : (wroteS m A n v).b (A + i) = v / 2 ^ (8 * i) % 256 := by
  show (if A ≤ A + i ∧ A + i < A + (bytesV v (numL n)).length then (bytesV v (numL n)).getD (A + i - A) 0 else m.b (A + i)) = _
  rw [if_pos (by rw [bytesV_len]; omega), show A + i - A = i by omega, bytesV_at _ h]
theorem bytes_else (m : Mm) (A : Nat) (n v : Int) (i : Nat) (h : numL n ≤ i) : (wroteS m A n v).b (A + i) = m.b (A + i) := by
  show (if A ≤ A + i ∧ A + i < A + (bytesV v (numL n)).length then (bytesV v (numL n)).getD (A + i - A) 0 else m.b (A + i)) = _
  rw [if_neg (by rw [bytesV_len]; omega)]
def mB (A : Nat) (x v : Int) : Mm := wroteS (wroteS kB A 4 x) A 1 v
theorem read_B (A : Nat) (x v : Int) (hx : 0 ≤ x ∧ x ≤ 4294967295) : readL (mB A x v) A 4 = x - x % 256 + v % 256 := by
  have h0 : (mB A x v).b (A + 0) = v % 256 := by rw [mB, bytes_there _ A 1 v 0 (by decide)]; simp
  have h1 : (mB A x v).b (A + 1) = x / 256 % 256 := by rw [mB, bytes_else _ A 1 v 1 (by decide), bytes_there _ A 4 x 1 (by decide)]; rfl
  have h2 : (mB A x v).b (A + 2) = x / 65536 % 256 := by rw [mB, bytes_else _ A 1 v 2 (by decide), bytes_there _ A 4 x 2 (by decide)]; rfl
  have h3 : (mB A x v).b (A + 3) = x / 16777216 % 256 := by rw [mB, bytes_else _ A 1 v 3 (by decide), bytes_there _ A 4 x 3 (by decide)]; rfl
  simp only [readL, h0, h1, h2, h3]
  omega
theorem pl_at (g : Gs) (m : Int) (h : 0 ≤ m ∧ m ≤ 4294967295) : plO g ⟨3, 0, m, -1, -1, 1⟩ = m := by
  unfold plO
  rw [if_pos rfl]
  show ((regV g (-1) + regV g (-1) * 1 % 4294967296) % 4294967296 + m) % 4294967296 = m
  rw [show regV g (-1) = 0 from rfl]
  omega
section
variable {n0 : Nat} {w0 w : World} {B : Nat} {m : Mm}
theorem b_map (p : Pg n0 w0 w B Mm.new) : Calls Try.prog 18 #[mp B, .int .i64 0, .int .i64 2, .int .i64 3] w fun e w' => e = .returned (.int .i64 0) ∧ Pg n0 w0 w' B kB ∧ But [B] w.heap.size w w' := by
  have q := pMap p 0 2 3 (by decide)
  rw [kB_map, show errM true = 0 from rfl] at q
  exact q.mono fun e w' h => ⟨h.1, h.2.1, h.2.2⟩
theorem b_write (p : Pg n0 w0 w B m) (hm : m.r = kB.r) (g : Gs) (A : Int) (hA : 0 ≤ A ∧ A < 256) (n v : Int) (hv : 0 ≤ v ∧ v ≤ 4294967295) (hn : numO n = n) : Calls Try.prog 15 #[mp B, stV g, opV ⟨3, 0, A, -1, -1, 1⟩, .int .i64 n, .int .u32 v] w fun e w' => e = .returned (.tuple #[stV g, fltV 0 0 0 0, .bool true]) ∧ Pg n0 w0 w' B (wroteS m A.toNat n v) ∧ But [B] w.heap.size w w' := by
  have q := Write_mem p.h p.ok g ⟨3, 0, A, -1, -1, 1⟩ n v hv rfl (by rw [pl_at g A (by omega)]; exact lackL_B hm hA (.inr rfl) _ (num_bd _).2)
  rw [pl_at g A (by omega), hn] at q
  exact q.mono fun e w' h => ⟨h.1, p.step h.2.1 (ok_B p.ok hm (by omega) n v) h.2.2, h.2.2⟩
theorem b_read {x v : Int} (A : Int) (hA : 0 ≤ A ∧ A < 256) (hx : 0 ≤ x ∧ x ≤ 4294967295) (p : Pg n0 w0 w B (mB A.toNat x v)) (g : Gs) : Calls Try.prog 16 #[mp B, stV g, opV ⟨3, 0, A, -1, -1, 1⟩, .int .i64 4] w fun e w' => e = .returned (.tuple #[.int .u32 (x - x % 256 + v % 256), fltV 0 0 0 0, .bool true]) ∧ Pg n0 w0 w' B (mB A.toNat x v) ∧ Below w.heap.size w w' := by
  have q := Read_mem p.h p.ok g ⟨3, 0, A, -1, -1, 1⟩ 4 rfl (q := 4) rfl (by rw [pl_at g A (by omega)]; exact lackL_B rfl hA (.inl rfl) 4 (by decide))
  rw [pl_at g A (by omega), read_B _ _ _ hx] at q
  exact q.mono fun e w' h => ⟨h.1, p.below h.2, h.2⟩
theorem b_set (p : Pg n0 w0 w B m) (g : Gs) (h : g.ok) {j : Nat} (hj : j < 8) (v : Int) (hv : 0 ≤ v ∧ v ≤ 4294967295) : Calls Try.prog 15 #[mp B, stV g, opV ⟨1, j, 0, 0, 0, 0⟩, .int .i64 1, .int .u32 v] w fun e w' => e = .returned (.tuple #[stV (setb g j v), fltV 0 0 0 0, .bool true]) ∧ Pg n0 w0 w' B m ∧ But [B] w.heap.size w w' :=
  (Write_reg1 p.h g h ⟨1, j, 0, 0, 0, 0⟩ v hv j hj rfl rfl).mono fun e w' h => ⟨h.1, p.step h.2.1 p.ok h.2.2, h.2.2⟩
theorem b_get (p : Pg n0 w0 w B m) (g : Gs) (h : g.ok) {j : Nat} (hj : j < 8) (v : Int) : Calls Try.prog 16 #[mp B, stV (setb g j v), opV ⟨1, j, 0, 0, 0, 0⟩, .int .i64 1] w fun e w' => e = .returned (.tuple #[.int .u32 (v % 256), fltV 0 0 0 0, .bool true]) ∧ Pg n0 w0 w' B m ∧ Below w.heap.size w w' := by
  have q := Read_reg1 p.h (setb g j v) (setb_ok h j v) ⟨1, j, 0, 0, 0, 0⟩ j hj rfl rfl
  rw [byte_setb g hj v] at q
  exact q.mono fun e w' h => ⟨h.1, p.below h.2, h.2⟩
theorem b_imm (p : Pg n0 w0 w B m) (g : Gs) (v : Int) (hv : 0 ≤ v ∧ v ≤ 4294967295) : Calls Try.prog 16 #[mp B, stV g, opV ⟨2, 0, v, 0, 0, 0⟩, .int .i64 1] w fun e w' => e = .returned (.tuple #[.int .u32 (v % 256), fltV 0 0 0 0, .bool true]) ∧ Pg n0 w0 w' B m ∧ Below w.heap.size w w' :=
  (Read_imm1 p.h g ⟨2, 0, v, 0, 0, 0⟩ hv rfl).mono fun e w' h => ⟨h.1, p.below h.2, h.2⟩
theorem b_none (p : Pg n0 w0 w B m) (g : Gs) : Calls Try.prog 16 #[mp B, stV g, opV ⟨0, 0, 0, 0, 0, 0⟩, .int .i64 4] w fun e w' => e = .returned (.tuple #[.int .u32 0, fltV 0 0 0 0, .bool true]) ∧ Pg n0 w0 w' B m ∧ Below w.heap.size w w' :=
  (Read_none p.h g ⟨0, 0, 0, 0, 0, 0⟩ 4 rfl).mono fun e w' h => ⟨h.1, p.below h.2, h.2⟩
end
theorem reg_b (r : Int) (w : World) : Calls Try.prog 19 #[.int .i64 r] w fun e w' => e = .returned (opV ⟨1, r, 0, 0, 0, 0⟩) ∧ Below w.heap.size w w' := by
  have kx := (Below.refl w.heap.size w).alloc (Nat.le_refl _) (.cells (op6 ⟨1, r, 0, 0, 0, 0⟩) 47)
  go_enter Try.func19, Try.ntmps19
  go_wp2
  exact bodyPost_ret (v := opV ⟨1, r, 0, 0, 0, 0⟩) (by simp [results, Try.results19, go_sem]) rfl ⟨rfl, kx⟩
abbrev zF : Array Value := #[.int .i64 0, .int .u32 0, .int .u32 0, .int .i64 0]
theorem store_fl {ops : Array Oper} {rest : List Oper} {o : Oper} {a : Act} {w : World} {Q : Exit → Act → World → Prop} (hgd : o.guard = none) (x y : Operand) (ho : o.op = .store 32 x y)
    (K : Nat) (cs old : Array Value) (hx : a.eval x = .pointer (some ⟨K, 0, none⟩)) (hy : a.eval y = .agg cs) (k : Blk w K 32 old) (hz : cs.size = 4) (hz2 : old.size = 4) (h1 : cs.all (·.oneCell') = true)
    (h : ∀ W, Blk W K 32 cs → But [K] w.heap.size w W → W.heap.size = w.heap.size → wpList Try.prog ops Q rest (a.put o.dst undef) W) : wpList Try.prog ops Q (o :: rest) a w := by
  refine wpList_store_row hgd 32 x y ho K cs hx hy 32 old k.h (szF.trans (congrArg some hz.symm)) (hz2.trans hz.symm) h1 ?_
  exact h _ (k.row cs) ((But.refl _ _ _).setRow (by simp) cs) (by simp [World.setRow])
/-- A region's post, where nothing but its end is left. -/
def Nrm (R : Act → World → Prop) : Exit → Act → World → Prop
  | .normal, a, w => R a w
  | _, _, _ => False
theorem cut_region {P : Program} {c : Code} {Q : Exit → Act → World → Prop} {a : Act} {w : World} (R : Act → World → Prop) (k : ∀ a w, R a w → Q .normal a w) (h : c.wp P (Nrm R) a w) : c.wp P Q a w :=
  Code.wp_mono (fun e a w hn => by cases e <;> first | exact k _ _ hn | exact (hn : False).elim) h
end Go.Proofs.Ytmlaancmacipoaa
