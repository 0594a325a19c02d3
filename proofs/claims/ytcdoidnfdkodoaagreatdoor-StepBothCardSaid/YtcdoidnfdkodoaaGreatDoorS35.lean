import Derived.Test.YtcdoidnfdkodoaaGreatDoorS16
import Derived.Test.YtcdoidnfdkodoaaGreatDoorS34
namespace Go.Proofs.YtcdoidnfdkodoaaGreatDoor
open Go.RowKit
set_option linter.unusedVariables false
set_option linter.unusedSimpArgs false
set_option linter.unusedSectionVars false
def zsF (m : Mm) (pc : Int) (k : Nat) : List Int := (List.range k).map fun (i : Nat) => m.b (((pc + i) % 4294967296).toNat)
theorem zsF_len (m : Mm) (pc : Int) (k : Nat) : (zsF m pc k).length = k := by simp [zsF]
theorem zsF_next (m : Mm) (pc : Int) (k : Nat) : zsF m pc k ++ [m.b (((pc + k) % 4294967296).toNat)] = zsF m pc (k + 1) := by
  unfold zsF; rw [List.range_succ, List.map_append]; rfl
theorem store_inT {ops : Array Oper} {rest : List Oper} {o : Oper} {a : Act} {w : World} {Q : Exit → Act → World → Prop} (hgd : o.guard = none) (x y : Operand) (ho : o.op = .store 33 x y)
    (K : Nat) (i : In) (old : Array Value) (hx : a.eval x = .pointer (some ⟨K, 0, none⟩)) (hy : a.eval y = inV i) (k : Blk w K 33 old) (hz2 : old.size = 16)
    (h : ∀ W, Blk W K 33 (in16 i) → But [K] w.heap.size w W → W.heap.size = w.heap.size → wpList Tryz.prog ops Q rest (a.put o.dst undef) W) : wpList Tryz.prog ops Q (o :: rest) a w := by
  refine wpList_store_row hgd 33 x y ho K (in16 i) hx hy 33 old k.h szI hz2 (by simp [Value.oneCell']) ?_
  exact h _ (k.row _) ((But.refl _ _ _).setRow (by simp) _) (by simp [World.setRow])
theorem load_inT {ops : Array Oper} {rest : List Oper} {o : Oper} {a : Act} {w : World} {Q : Exit → Act → World → Prop} (hgd : o.guard = none) (x : Operand) (ho : o.op = .load 33 x) (K : Nat) (i : In) (hx : a.eval x = .pointer (some ⟨K, 0, none⟩)) (h : Blk w K 33 (in16 i))
    (k : wpList Tryz.prog ops Q rest (a.put o.dst (inV i)) w) : wpList Tryz.prog ops Q (o :: rest) a w := load_in hgd x ho hx h k
theorem stop_app {ops : Array Oper} {rest : List Oper} {o : Oper} {a : Act} {w : World} {Q : Exit → Act → World → Prop} (s x : Operand)
    (ho : o.op = .call { callee := .builtin .append, args := #[s, x], argTypes := #[66, 66] }) (h : RowKit.Hid (wpList Tryz.prog ops Q (o :: rest) a w)) : wpList Tryz.prog ops Q (o :: rest) a w := h
def lenV : Value → Nat
  | .slice _ n _ => n
  | _ => 0
section
variable {w : World} {B : Nat} {m : Mm}
set_option maxRecDepth 20000 in
theorem code_yes (h : PAt w B m) (ok : m.ok) (A : Nat) (hA : A ≤ 4294967295) (hl : lackL m A 4 1 = none) : Calls Tryz.prog 95 #[mp B, .int .u32 A] w fun e w' => e = .returned (.int .u8 (m.b A)) ∧ Below w.heap.size w w' := by
  have hR := Lib.hid (Read_yes h ok A hA 1 4 hl)
  have e1 : readL m A (numL 1) = m.b A := by show 0 + m.b (A + 0) * 2 ^ (8 * 0) = m.b A; simp
  rw [e1] at hR
  have hb := ok.b A
  have hM := Lib.hid (fun W => must_yes 0 0 0 W)
  generalize m.b A = z at *
  have hz : z % 256 = z := by omega
  clear hl e1
  go_enter Tryz.func95, Tryz.ntmps95
  go_wp2_with (first | ((with_reducible refine hR.out.mono ?_); rintro e w1 ⟨rfl, b1⟩; have b2 := b1.alloc b1.size (.cells #[.int .i64 0, .int .u32 0, .int .u32 0, .int .i64 0] 42); obtain ⟨d0, d1, d2, d3, -⟩ := Four.begun w1 0 0 0 0 42) | ((with_reducible refine (hM.out _).mono ?_); rintro e w3 ⟨rfl, b3⟩))
  go_ret
  exact ⟨rfl, b2.trans (b3.mono b2.size)⟩
set_option maxRecDepth 20000 in
set_option maxHeartbeats 2000000 in
theorem fetched_ok (h : PAt w B m) (ok : m.ok) (tabs : Tabs w) (pc : Int) (hpc : 0 ≤ pc ∧ pc ≤ 4294967295) (K : Nat) (hK : K ≤ 40) (hs : ∀ j, j < K → decE (zsF m pc j) = 10 ∧ lackL m ((pc + j) % 4294967296) 4 1 = none) (he : decE (zsF m pc K) = 0) :
    Calls Tryz.prog 53 #[mp B, .int .u32 pc] w fun e w' => e = .returned (inV (decI (zsF m pc K))) ∧ Below w.heap.size w w' := by
  have hS := Lib.hid hs
  have hE := Lib.hid he
  clear hs he
  have b0 := (Below.refl w.heap.size w).alloc (Nat.le_refl _) (.cells z16 33)
  have kR := Blk.new w 33 z16
  have hg := h.below b0 h.lt
  have tb := tabs.below b0
  have sz : w.heap.size + 1 ≤ (w.alloc (.cells z16 33)).heap.size := by simp
  have nB := Lib.hid h.lt
  have T0 := Lib.hid tabs
  clear h tabs
  go_enter Tryz.func53, Tryz.ntmps53
  go_wp2_with fail
  generalize w.alloc (.cells z16 33) = W0 at *
  go_loopw [5] (fun b W => ∃ k : Nat, k ≤ K ∧ Own W (w.heap.size + 1) b (zsF m pc k) ∧ lenV b = k ∧ PAt W B m ∧ Tabs W ∧ Blk W w.heap.size 33 z16 ∧ Below w.heap.size w W ∧ w.heap.size + 1 ≤ W.heap.size) (fun b _ => 100 - lenV b)
  case atStart =>
    exact ⟨0, by omega, Own.mk (fun z hz => by cases hz) ⟨rfl, .inl ⟨rfl, rfl⟩⟩, rfl, hg, tb, kR, b0, sz⟩
  case round =>
    obtain ⟨k, hk, ow, hlen, hp, tw, kW, bw, zw⟩ := hrel
    obtain ⟨a, cap, rfl, ba⟩ := ow.ba
    rw [zsF_len] at *
    have qD := Lib.hid (Decode_any ba tw)
    have hkw : (k : Int) % 4294967296 = k := by omega
    by_cases hlt : k < K
    · obtain ⟨e10, l0⟩ := hS.out k hlt
      rw [e10] at qD
      have hA0 : (((((pc + k) % 4294967296).toNat : Nat)) : Int) = (pc + k) % 4294967296 := Int.toNat_of_nonneg (by omega)
      have qC := Lib.hid (fun W (hW : PAt W B m) => code_yes hW ok ((pc + k) % 4294967296).toNat (by omega) (by rw [hA0]; exact l0))
      rw [hA0] at qC
      have hz := ok.b ((pc + k) % 4294967296).toNat
      have hnx := zsF_next m pc k
      generalize m.b ((pc + k) % 4294967296).toNat = z at *
      generalize decI (zsF m pc k) = i at *
      clear e10 l0 hA0 ba
      have nB' := nB.out
      go_wp2_with (first | ((with_reducible refine qD.out.mono ?_); rintro e w1 ⟨rfl, b1⟩; have b2 := b1.alloc b1.size (.cells (in16 i) 33); have p2 := hp.below b2 hp.lt; have ow2 := ow.below b2) | ((with_reducible refine (qC.out _ p2).mono ?_); rintro e w3 ⟨rfl, b3⟩; have b4 := b3.alloc b3.size (.cells #[.int .u8 z] 5); have ow4 := ow2.below b4; have B4 : Ba (w3.alloc (.cells #[.int .u8 z] 5)) (some ⟨w3.heap.size, 0, none⟩) 1 1 [z] := ⟨row_new w3 [z] (by simpa using hz) 5, Nat.le_refl _, by decide, fun h => by cases h⟩; have z4 : w.heap.size + 1 ≤ (w3.alloc (.cells #[.int .u8 z] 5)).heap.size := by have := b2.size; have := b4.size; omega) | (with_reducible refine stop_app _ _ rfl ?_))
      unfold RowKit.Hid
      refine append_bytes rfl _ _ rfl (w.heap.size + 1) _ (zsF m pc k) [z] rfl ow4 z4 _ 1 1 rfl B4 (by rw [zsF_len]; simp; omega) ?_
      intro v' w5 ow5 b5
      rw [hnx] at ow5
      obtain ⟨a5, c5, rfl, -⟩ := ow5.ba
      rw [zsF_len] at *
      have bz : Below w.heap.size w w5 := (bw.trans (b2.mono bw.size)).trans ((b4.mono (by have := b2.size; omega)).trans (b5.mono (by omega)))
      have p5 := (p2.below b4 p2.lt).below b5 (by omega)
      have kW5 := ((kW.below b2 kW.lt).below b4 (by have := kW.lt; have := b2.size; omega)).below b5 (by omega)
      go_wp2_with fail
      go_roundw
      case rel => exact ⟨k + 1, by omega, ow5, rfl, p5, T0.out.below bz, kW5, bz, by have := b5.size; omega⟩
      case measure => simp [lenV]; omega
    · obtain rfl : k = K := by omega
      rw [hE.out] at qD
      generalize hi9 : decI (zsF m pc k) = i at *
      have HI := Lib.hid hi9
      clear ba hi9
      go_wp2_with (first | ((with_reducible refine qD.out.mono ?_); rintro e w1 ⟨rfl, b1⟩; have b2 := b1.alloc b1.size (.cells (in16 i) 33); have kW2 := kW.below b2 kW.lt; have kN := Blk.new w1 33 (in16 i)) | (with_reducible refine load_inT rfl _ rfl w1.heap.size i rfl kN ?_) | ((with_reducible refine store_inT rfl _ _ rfl w.heap.size i z16 rfl rfl kW2 rfl ?_); intro w3 kR3 b3 s3))
      have bz : Below w.heap.size w w3 := (bw.trans (b2.mono bw.size)).trans (b3.below (Nat.le_trans bw.size b2.size) (by simp))
      have s20 := kR3.cell (i := 0) rfl
      have s21 := kR3.cell (i := 1) rfl
      have s22 := kR3.cell (i := 2) rfl
      have s23 := kR3.cell (i := 3) rfl
      have s24 := kR3.cell (i := 4) rfl
      have s25 := kR3.cell (i := 5) rfl
      have s26 := kR3.cell (i := 6) rfl
      have s27 := kR3.cell (i := 7) rfl
      have s28 := kR3.cell (i := 8) rfl
      have s29 := kR3.cell (i := 9) rfl
      have s30 := kR3.cell (i := 10) rfl
      have s31 := kR3.cell (i := 11) rfl
      have s32 := kR3.cell (i := 12) rfl
      have s33 := kR3.cell (i := 13) rfl
      have s34 := kR3.cell (i := 14) rfl
      have s35 := kR3.cell (i := 15) rfl
      exact bodyPost_ret (v := inV i) (by simp [results, Tryz.results53, go_sem, s20, s21, s22, s23, s24, s25, s26, s27, s28, s29, s30, s31, s32, s33, s34, s35]) rfl ⟨by rw [HI.out], bz⟩
end
end Go.Proofs.YtcdoidnfdkodoaaGreatDoor
