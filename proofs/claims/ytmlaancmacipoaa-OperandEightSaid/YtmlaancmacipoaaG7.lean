/- operand: what is known. -/
import Derived.Test.YtmlaancmacipoaaG6
import Derived.Deep.CutRange
namespace Go.Proofs.Ytmlaancmacipoaa
open Go.RowKit
set_option linter.unusedVariables false
set_option linter.unusedSimpArgs false
set_option linter.unusedSectionVars false

theorem load_stG {ops : Array Oper} {rest : List Oper} {o : Oper} {a : Act} {w : World} {Q : Exit → Act → World → Prop} (hw : Region.wanted o (yielded ops a.tmps) = true) (x : Operand) (ho : o.op = .load 44 x)
    (N : Nat) (hx : a.eval x = .pointer (some ⟨N, 0, none⟩)) (cs : Array Value) (hz : cs.size = 17) (k : Blk w N 44 cs)
    (h : wpList Try.prog ops Q rest (a.put o.dst (.agg cs)) w) : wpList Try.prog ops Q (o :: rest) a w :=
  BigFrame.wpList_want hw fun K hK => wp_load_row 44 x ho N hx 44 cs (0, 0) _ k.h Try.underlying44 rfl (szS.trans (congrArg some hz.symm)) (hK _ _ h)
def gK : Gs := ⟨fun i => if i = 3 then 16 else if i = 1 then 2 else 0, 0, fun _ => false, false, 0⟩
def oK : On := ⟨3, 0, 8, 3, 1, 4⟩
def oK2 : On := ⟨3, 0, 256, -1, -1, 1⟩
def kW : Mm := wroteS kM1 32 4 77
theorem kM1_ok : kM1.ok := mapS_ok new_okM 0 1 3
theorem kn5 : lackL kM1 32 2 (numL 4) = none ∧ lackL kW 32 1 (numL 4) = none ∧ readL kW 32 4 = 77 := by refine ⟨?_, ?_, ?_⟩ <;> kernel_rfl
theorem kn6 : (lkL kW 2 252 = 0 ∧ lkL kW 2 253 = 0 ∧ lkL kW 2 254 = 0 ∧ lkL kW 2 255 = 0) ∧ lkL kW 2 256 = 2 ∧ lkL kW 3 256 = 3 := by refine ⟨⟨?_, ?_, ?_, ?_⟩, ?_, ?_⟩ <;> kernel_rfl
theorem kn7 : plO gK oK = 32 ∧ plO gK oK2 = 256 ∧ wantL 2 = 2 ∧ wantL 3 = 1 := by refine ⟨?_, ?_, ?_, ?_⟩ <;> kernel_rfl
theorem kW_ok : kW.ok := by
  have h := wroteM_ok kM1_ok 32 (by decide) 4 77
  have e : wroteM kM1 32 4 77 = kW := by unfold wroteM; rw [kn5.1]; rfl
  rwa [e] at h
section
variable {n0 : Nat} {w0 w : World} {B : Nat}
theorem k_map (p : Pg n0 w0 w B Mm.new) : Calls Try.prog 18 #[mp B, .int .i64 0, .int .i64 1, .int .i64 3] w fun e w' => e = .returned (.int .i64 0) ∧ Pg n0 w0 w' B kM1 := by
  have q := pMap p 0 1 3 (by decide)
  rw [kn1.1, show errM true = 0 from rfl, show mapS Mm.new 0 1 3 = kM1 from rfl] at q
  exact q.mono fun e w' h => ⟨h.1, h.2.1⟩
theorem k_write (p : Pg n0 w0 w B kM1) : Calls Try.prog 15 #[mp B, stV gK, opV oK, .int .i64 4, .int .u32 77] w fun e w' => e = .returned (.tuple #[stV gK, fltV 0 0 0 0, .bool true]) ∧ Pg n0 w0 w' B kW ∧ But [B] w.heap.size w w' := by
  have q := Write_mem p.h kM1_ok gK oK 4 77 (by decide) rfl (by rw [kn7.1]; exact kn5.1)
  rw [kn7.1] at q
  exact q.mono fun e w' h => ⟨h.1, p.step h.2.1 kW_ok h.2.2, h.2.2⟩
theorem k_read (p : Pg n0 w0 w B kW) : Calls Try.prog 16 #[mp B, stV gK, opV oK, .int .i64 4] w fun e w' => e = .returned (.tuple #[.int .u32 77, fltV 0 0 0 0, .bool true]) ∧ Pg n0 w0 w' B kW ∧ Below w.heap.size w w' := by
  have q := Read_mem p.h kW_ok gK oK 4 rfl (q := 4) rfl (by rw [kn7.1]; exact kn5.2.1)
  rw [kn7.1, show (32 : Int).toNat = 32 from rfl, kn5.2.2] at q
  exact q.mono fun e w' h => ⟨h.1, p.below h.2, h.2⟩
theorem k_write8 (p : Pg n0 w0 w B kW) : Calls Try.prog 11 #[mp B, .int .u32 252, .int .u64 1] w fun e w' => e = .returned (.tuple #[fltV 1 0 256 2, .bool false]) ∧ Pg n0 w0 w' B kW ∧ Below w.heap.size w w' := by
  have q := Write8_no p.h kW_ok 252 1 (by decide) 4 (by decide) (fun i hi => by
    rcases (by omega : i = 0 ∨ i = 1 ∨ i = 2 ∨ i = 3) with rfl | rfl | rfl | rfl
    · exact kn6.1.1
    · exact kn6.1.2.1
    · exact kn6.1.2.2.1
    · exact kn6.1.2.2.2) (by show ¬ lkL kW 2 256 = 0; rw [kn6.2.1]; decide)
  rw [show ((252 : Int) + ((4 : Nat) : Int)) % 4294967296 = 256 from rfl, kn6.2.1, kn7.2.2.1] at q
  exact q.mono fun e w' h => ⟨h.1, p.below h.2, h.2⟩
theorem k_can (p : Pg n0 w0 w B kW) : Calls Try.prog 20 #[mp B, stV gK, opV ⟨3, 0, 256, -1, -1, 1⟩, .int .i64 4, .int .i64 3] w fun e w' => e = .returned (.tuple #[fltV 1 0 256 1, .bool false]) ∧ Pg n0 w0 w' B kW ∧ Below w.heap.size w w' := by
  have q := Can_no p.h kW_ok gK oK2 4 3 rfl (by decide) 0 (by decide) (fun i hi => absurd hi (by omega)) (by rw [kn7.2.1]; show ¬ lkL kW 3 256 = 0; rw [kn6.2.2]; decide)
  rw [kn7.2.1, show ((256 : Int) + ((0 : Nat) : Int)) % 4294967296 = 256 from rfl, kn6.2.2, kn7.2.2.2] at q
  exact q.mono fun e w' h => ⟨h.1, p.below h.2, h.2⟩
end
theorem k_place (w : World) : Calls Try.prog 17 #[stV gK, opV oK] w fun e w' => e = .returned (.int .u32 32) ∧ Below w.heap.size w w' := by
  have q := Place_any gK oK w
  rwa [kn7.1] at q
theorem k_eq (W : World) : (Op.equalIn 9999 40 (.agg #[.int .u32 (gK.r 0), .int .u32 (gK.r 1), .int .u32 (gK.r 2), .int .u32 (gK.r 3), .int .u32 (gK.r 4), .int .u32 (gK.r 5), .int .u32 (gK.r 6), .int .u32 (gK.r 7)]) (.agg #[.int .u32 (gK.r 0), .int .u32 (gK.r 1), .int .u32 (gK.r 2), .int .u32 (gK.r 3), .int .u32 (gK.r 4), .int .u32 (gK.r 5), .int .u32 (gK.r 6), .int .u32 (gK.r 7)])).run Try.prog W = .ok true W := by kernel_rfl
set_option maxRecDepth 100000 in
set_option maxHeartbeats 4000000 in
theorem oknown (w : World) : Calls Try.prog 7 #[] w fun e w' => e = .returned (.bool true) ∧ Below w.heap.size w w' := by
  have hNew := Lib.hid (fun W => pNew W)
  have hPl := Lib.hid (fun W => k_place W)
  go_enter Try.func7, Try.ntmps7
  go_upto_region 4 with (first | ((with_reducible refine (hNew.out _).mono ?_); rintro e w1 ⟨rfl, p1⟩; have q1 := Lib.hid (k_map p1)) | ((with_reducible refine q1.out.mono ?_); rintro e w2 ⟨rfl, p2⟩))
  clear q1 p1 hNew
  go_upto_region 7 with fail
  rw [show (#[.int .u32 0, .int .u32 2, .int .u32 0, .int .u32 16, .int .u32 0, .int .u32 0, .int .u32 0, .int .u32 0, .int .u32 0, .bool false, .bool false, .bool false, .bool false, .bool false, .bool false, .bool false, .int .u64 0] : Array Value) = stA gK from rfl, show (#[.int .i64 3, .int .i64 0, .int .u32 8, .int .i64 3, .int .i64 1, .int .u32 4] : Array Value) = op6 oK from rfl]
  obtain ⟨kS, kO, b2⟩ := stO w2 gK oK
  have p3 := p2.below b2
  have l2 := p2.h.lt
  clear b2 p2
  generalize hn2 : w2.heap.size = K at *
  have HK := Lib.hid l2
  clear l2 hn2
  generalize (w2.alloc (.cells (stA gK) 44)).alloc (.cells (op6 oK) 47) = W3 at *
  have q3 := Lib.hid (k_write p3)
  have hBK := HK.out
  have hBK1 : ¬ K = w.heap.size := by omega
  have hBK2 : ¬ K + 1 = w.heap.size := by omega
  clear hBK
  have B1 := Lib.hid hBK1
  have B2 := Lib.hid hBK2
  clear hBK1 hBK2
  go_upto_region 8 with (first | (with_reducible refine load_st rfl _ rfl K (stA gK) rfl kS rfl ?_) | (with_reducible refine load_on rfl _ rfl (K + 1) (op6 oK) rfl kO rfl ?_) | ((with_reducible refine q3.out.mono ?_); rintro e w4 ⟨rfl, p4, b4⟩))
  replace kS := kS.but b4 kS.lt (by simpa using B1.out)
  replace kO := kO.but b4 kO.lt (by simpa using B2.out)
  have kT := (Blk.new w4 44 (stA gK)).alloc (.cells #[.int .i64 0, .int .u32 0, .int .u32 0, .int .i64 0] 32)
  have a5 := ((Below.refl w4.heap.size w4).alloc (Nat.le_refl _) (.cells (stA gK) 44)).alloc (by simp) (.cells #[.int .i64 0, .int .u32 0, .int .u32 0, .int .i64 0] 32)
  replace kS := kS.below a5 kS.lt
  replace kO := kO.below a5 kO.lt
  have p5 := p4.below a5
  clear a5 b4 q3 p3 p4
  generalize w4.heap.size = T at *
  generalize (w4.alloc (.cells (stA gK) 44)).alloc (.cells #[.int .i64 0, .int .u32 0, .int .u32 0, .int .i64 0] 32) = W5 at *
  have q5 := Lib.hid (k_read p5)
  go_upto_region 9 with (first | (with_reducible refine load_st rfl _ rfl K (stA gK) rfl kS rfl ?_) | (with_reducible refine load_on rfl _ rfl (K + 1) (op6 oK) rfl kO rfl ?_) | ((with_reducible refine q5.out.mono ?_); rintro e w6 ⟨rfl, p6, b6⟩))
  have a7 := b6.alloc b6.size (.cells #[.int .i64 0, .int .u32 0, .int .u32 0, .int .i64 0] 32)
  replace kS := kS.below a7 kS.lt
  replace kO := kO.below a7 kO.lt
  replace kT := kT.below a7 kT.lt
  have z7 := Blk.new w6 32 #[.int .i64 0, .int .u32 0, .int .u32 0, .int .i64 0]
  have p7 := p6.below ((Below.refl _ _).alloc (Nat.le_refl _) (.cells #[.int .i64 0, .int .u32 0, .int .u32 0, .int .i64 0] 32))
  clear a7 b6 p6
  clear z7
  generalize w6.alloc (.cells #[.int .i64 0, .int .u32 0, .int .u32 0, .int .i64 0] 32) = W7 at *
  have q7 := Lib.hid (k_write8 p7)
  go_upto_region 10 with (first | ((with_reducible refine q7.out.mono ?_); rintro e w8 ⟨rfl, p8, b8⟩))
  have a9 := b8.alloc b8.size (.cells #[.int .i64 1, .int .u32 0, .int .u32 256, .int .i64 2] 32)
  replace kS := kS.below a9 kS.lt
  replace kO := kO.below a9 kO.lt
  replace kT := kT.below a9 kT.lt
  have z9 := Blk.new w8 32 #[.int .i64 1, .int .u32 0, .int .u32 256, .int .i64 2]
  have p9 := p8.below ((Below.refl _ _).alloc (Nat.le_refl _) (.cells #[.int .i64 1, .int .u32 0, .int .u32 256, .int .i64 2] 32))
  clear a9 b8 p8
  generalize hE : w8.heap.size = E at *
  have hE' := Lib.hid hE
  clear hE
  generalize w8.alloc (.cells #[.int .i64 1, .int .u32 0, .int .u32 256, .int .i64 2] 32) = W9 at *
  have q9 := Lib.hid (k_can p9)
  go_upto_region 11 with (first | (with_reducible refine load_st rfl _ rfl K (stA gK) rfl kS rfl ?_) | ((with_reducible refine q9.out.mono ?_); rintro e w10 ⟨rfl, p10, b10⟩))
  have y9 := z9.below b10 z9.lt
  replace y9 := y9.alloc (.cells #[.int .i64 1, .int .u32 0, .int .u32 256, .int .i64 1] 32)
  have a11 := b10.alloc b10.size (.cells #[.int .i64 1, .int .u32 0, .int .u32 256, .int .i64 1] 32)
  replace kS := kS.below a11 kS.lt
  replace kO := kO.below a11 kO.lt
  replace kT := kT.below a11 kT.lt
  have z11 := Blk.new w10 32 #[.int .i64 1, .int .u32 0, .int .u32 256, .int .i64 1]
  have p11 := p10.below ((Below.refl _ _).alloc (Nat.le_refl _) (.cells #[.int .i64 1, .int .u32 0, .int .u32 256, .int .i64 1] 32))
  clear a11 b10 p10
  generalize w10.heap.size = G at *
  generalize w10.alloc (.cells #[.int .i64 1, .int .u32 0, .int .u32 256, .int .i64 1] 32) = W11 at *
  have hdone := Lib.hid p11.done
  have hsz := Lib.hid p11.sz
  clear q9 q7 q5 hE' p11
  have heq := k_eq
  have f2 := y9.cell (i := 2) (v := .int .u32 256) rfl
  have f3 := z11.cell (i := 3) (v := .int .i64 1) rfl
  go_wp2_with (first | (with_reducible refine load_st rfl _ rfl K (stA gK) rfl kS rfl ?_) | (with_reducible refine load_on rfl _ rfl (K + 1) (op6 oK) rfl kO rfl ?_) | ((with_reducible refine (hPl.out _).mono ?_); rintro e w12 ⟨rfl, b12⟩; have kS2 := kS.below b12 kS.lt; have kT2 := kT.below b12 kT.lt; have f22 := (b12.cell (p := ⟨E, 2, none⟩) (size_of_cell f2)).trans f2; have f32 := (b12.cell (p := ⟨G, 3, none⟩) (size_of_cell f3)).trans f3) | (with_reducible refine load_stG (by kernel_rfl) _ rfl T rfl (stA gK) rfl kT2 ?_) | (with_reducible refine load_stG (by kernel_rfl) _ rfl K rfl (stA gK) rfl kS2 ?_))
  go_ret
  exact ⟨rfl, hdone.out.trans (b12.mono hsz.out)⟩
end Go.Proofs.Ytmlaancmacipoaa
