import Derived.Test.YtcdoidnfdkodoaaGreatDoorS27
namespace Go.Proofs.YtcdoidnfdkodoaaGreatDoor
open Go.RowKit
set_option linter.unusedVariables false
set_option linter.unusedSimpArgs false
set_option linter.unusedSectionVars false
theorem z6_one : z6.all (·.oneCell') = true := by simp [Value.oneCell']
theorem z16_one : z16.all (·.oneCell') = true := by simp [Value.oneCell']
section
variable {w : World} {N B : Nat} {a : Option Addr} {len cap : Nat} {zs : List Int} {p : Nat} {c m : Int}
set_option maxRecDepth 8000 in
theorem oper_1 (R : Rd w N B a len cap zs p c m)  :
    Calls Tryz.prog 259 #[rp B, .int .i64 1] w fun e w' => e = .returned (opV (onReg 0)) ∧ Rd w' N B a len cap zs p c m ∧ But [B] w.heap.size w w' := by
  have F := PF.start R 31 z6
  have hB := R.lt
  have c2 := F.r.c2
  have c3 := F.r.c3
  go_enter Tryz.func259, Tryz.ntmps259
  go_wp2_with fail
  generalize w.alloc (.cells z6 31) = w1 at *
  go_wp2_with (first | ((with_reducible refine (register_anyD (0) _).mono ?_); rintro e W2 ⟨rfl, b2⟩; replace F := F.below b2) | ((with_reducible refine store_opR rfl _ _ rfl w.heap.size (op6 (onReg 0)) z6 rfl rfl F.z (op6_size _) z6_size (op6_one _) ?_); intro W4 z4 k4 s4; have F2 := F.done z4 k4))
  exact bodyPost_ret (v := opV (onReg 0)) (results_cell_row rfl _ _ w.heap.size 31 _ (0, 0) _ rfl F2.z.h Tryz.underlying31 rfl (szOp onZ)) rfl ⟨rfl, F2.r, F2.k⟩
set_option maxRecDepth 8000 in
theorem oper_2 (R : Rd w N B a len cap zs p c m)  :
    Calls Tryz.prog 259 #[rp B, .int .i64 2] w fun e w' => e = .returned (opV (onReg 1)) ∧ Rd w' N B a len cap zs p c m ∧ But [B] w.heap.size w w' := by
  have F := PF.start R 31 z6
  have hB := R.lt
  have c2 := F.r.c2
  have c3 := F.r.c3
  go_enter Tryz.func259, Tryz.ntmps259
  go_wp2_with fail
  generalize w.alloc (.cells z6 31) = w1 at *
  go_wp2_with (first | ((with_reducible refine (register_anyD (1) _).mono ?_); rintro e W2 ⟨rfl, b2⟩; replace F := F.below b2) | ((with_reducible refine store_opR rfl _ _ rfl w.heap.size (op6 (onReg 1)) z6 rfl rfl F.z (op6_size _) z6_size (op6_one _) ?_); intro W4 z4 k4 s4; have F2 := F.done z4 k4))
  exact bodyPost_ret (v := opV (onReg 1)) (results_cell_row rfl _ _ w.heap.size 31 _ (0, 0) _ rfl F2.z.h Tryz.underlying31 rfl (szOp onZ)) rfl ⟨rfl, F2.r, F2.k⟩
set_option maxRecDepth 8000 in
theorem oper_3 (R : Rd w N B a len cap zs p c m)  :
    Calls Tryz.prog 259 #[rp B, .int .i64 3] w fun e w' => e = .returned (opV (onImm 1)) ∧ Rd w' N B a len cap zs p c m ∧ But [B] w.heap.size w w' := by
  have F := PF.start R 31 z6
  have hB := R.lt
  have c2 := F.r.c2
  have c3 := F.r.c3
  go_enter Tryz.func259, Tryz.ntmps259
  go_wp2_with fail
  generalize w.alloc (.cells z6 31) = w1 at *
  go_wp2_with (first | ((with_reducible refine (number_anyD (1) _).mono ?_); rintro e W3 ⟨rfl, b3⟩; replace F := F.below b3) | ((with_reducible refine store_opR rfl _ _ rfl w.heap.size (op6 (onImm 1)) z6 rfl rfl F.z (op6_size _) z6_size (op6_one _) ?_); intro W4 z4 k4 s4; have F2 := F.done z4 k4))
  exact bodyPost_ret (v := opV (onImm 1)) (results_cell_row rfl _ _ w.heap.size 31 _ (0, 0) _ rfl F2.z.h Tryz.underlying31 rfl (szOp onZ)) rfl ⟨rfl, F2.r, F2.k⟩
set_option maxRecDepth 8000 in
theorem oper_4 (R : Rd w N B a len cap zs p c m)  :
    Calls Tryz.prog 259 #[rp B, .int .i64 4] w fun e w' => e = .returned (opV (onReg (c % 8))) ∧ Rd w' N B a len cap zs p c m ∧ But [B] w.heap.size w w' := by
  have hL := fun w => lowest3_any c R.cb w
  have F := PF.start R 31 z6
  have hB := R.lt
  have c2 := F.r.c2
  have c3 := F.r.c3
  go_enter Tryz.func259, Tryz.ntmps259
  go_wp2_with fail
  generalize w.alloc (.cells z6 31) = w1 at *
  go_wp2_with (first | ((with_reducible refine (hL _).mono ?_); rintro e W1 ⟨rfl, rfl⟩) | ((with_reducible refine (register_anyD (c % 8) _).mono ?_); rintro e W2 ⟨rfl, b2⟩; replace F := F.below b2) | ((with_reducible refine store_opR rfl _ _ rfl w.heap.size (op6 (onReg (c % 8))) z6 rfl rfl F.z (op6_size _) z6_size (op6_one _) ?_); intro W4 z4 k4 s4; have F2 := F.done z4 k4))
  exact bodyPost_ret (v := opV (onReg (c % 8))) (results_cell_row rfl _ _ w.heap.size 31 _ (0, 0) _ rfl F2.z.h Tryz.underlying31 rfl (szOp onZ)) rfl ⟨rfl, F2.r, F2.k⟩
set_option maxRecDepth 8000 in
theorem oper_5 (R : Rd w N B a len cap zs p c m)  :
    Calls Tryz.prog 259 #[rp B, .int .i64 5] w fun e w' => e = .returned (opV (onReg (m / 8 % 8))) ∧ Rd w' N B a len cap zs p c m ∧ But [B] w.heap.size w w' := by
  have hL := fun w => middle_any m R.mb w
  have F := PF.start R 31 z6
  have hB := R.lt
  have c2 := F.r.c2
  have c3 := F.r.c3
  go_enter Tryz.func259, Tryz.ntmps259
  go_wp2_with fail
  generalize w.alloc (.cells z6 31) = w1 at *
  go_wp2_with (first | ((with_reducible refine (hL _).mono ?_); rintro e W1 ⟨rfl, rfl⟩) | ((with_reducible refine (register_anyD (m / 8 % 8) _).mono ?_); rintro e W2 ⟨rfl, b2⟩; replace F := F.below b2) | ((with_reducible refine store_opR rfl _ _ rfl w.heap.size (op6 (onReg (m / 8 % 8))) z6 rfl rfl F.z (op6_size _) z6_size (op6_one _) ?_); intro W4 z4 k4 s4; have F2 := F.done z4 k4))
  exact bodyPost_ret (v := opV (onReg (m / 8 % 8))) (results_cell_row rfl _ _ w.heap.size 31 _ (0, 0) _ rfl F2.z.h Tryz.underlying31 rfl (szOp onZ)) rfl ⟨rfl, F2.r, F2.k⟩
set_option maxRecDepth 8000 in
theorem oper_6 (R : Rd w N B a len cap zs p c m) {o : On} {q : Nat} (h : placeM zs p m = some (o, q)) :
    Calls Tryz.prog 259 #[rp B, .int .i64 6] w fun e w' => e = .returned (opV (o)) ∧ Rd w' N B a len cap zs q c m ∧ But [B] w.heap.size w w' := by
  have hN := Lib.hid (fun W (R : Rd W N B a len cap zs p c m) => place_yes R h)
  have F := PF.start R 31 z6
  have hB := R.lt
  have c2 := F.r.c2
  have c3 := F.r.c3
  go_enter Tryz.func259, Tryz.ntmps259
  go_wp2_with fail
  generalize w.alloc (.cells z6 31) = w1 at *
  go_wp2_with (first | ((with_reducible refine (hN.out _ F.r).mono ?_); rintro e W1 ⟨rfl, r1, b1⟩; replace F := F.read r1 b1) | ((with_reducible refine store_opR rfl _ _ rfl w.heap.size (op6 (o)) z6 rfl rfl F.z (op6_size _) z6_size (op6_one _) ?_); intro W4 z4 k4 s4; have F2 := F.done z4 k4))
  exact bodyPost_ret (v := opV (o)) (results_cell_row rfl _ _ w.heap.size 31 _ (0, 0) _ rfl F2.z.h Tryz.underlying31 rfl (szOp onZ)) rfl ⟨rfl, F2.r, F2.k⟩
set_option maxRecDepth 8000 in
theorem oper_6n (R : Rd w N B a len cap zs p c m) (h : placeM zs p m = none) :
    Calls Tryz.prog 259 #[rp B, .int .i64 6] w fun e w' => e = .panicked (errP 10) ∧ But [B] w.heap.size w w' := by
  have hN := Lib.hid (fun W (R : Rd W N B a len cap zs p c m) => place_no R h)
  have F := PF.start R 31 z6
  go_enter Tryz.func259, Tryz.ntmps259
  go_wp2_with fail
  generalize w.alloc (.cells z6 31) = w1 at *
  go_wp2_with ((with_reducible refine (hN.out _ F.r).mono ?_); rintro e W4 ⟨rfl, b4⟩)
  exact ⟨rfl, rfl, F.k.trans (b4.mono F.k.size (fun _ h => .inl h))⟩
set_option maxRecDepth 8000 in
theorem oper_7 (R : Rd w N B a len cap zs p c m) (h : p + 1 ≤ zs.length) :
    Calls Tryz.prog 259 #[rp B, .int .i64 7] w fun e w' => e = .returned (opV (onImm (zs.getD p 0))) ∧ Rd w' N B a len cap zs (p + 1) c m ∧ But [B] w.heap.size w w' := by
  have hN := Lib.hid (fun W (R : Rd W N B a len cap zs p c m) => next1_yes R h)
  generalize zs.getD p 0 = z at *
  have F := PF.start R 31 z6
  have hB := R.lt
  have c2 := F.r.c2
  have c3 := F.r.c3
  go_enter Tryz.func259, Tryz.ntmps259
  go_wp2_with fail
  generalize w.alloc (.cells z6 31) = w1 at *
  go_wp2_with (first | ((with_reducible refine (hN.out _ F.r).mono ?_); rintro e W1 ⟨rfl, r1, b1⟩; replace F := F.read r1 b1) | ((with_reducible refine (number_anyD (z) _).mono ?_); rintro e W3 ⟨rfl, b3⟩; replace F := F.below b3) | ((with_reducible refine store_opR rfl _ _ rfl w.heap.size (op6 (onImm (z))) z6 rfl rfl F.z (op6_size _) z6_size (op6_one _) ?_); intro W4 z4 k4 s4; have F2 := F.done z4 k4))
  exact bodyPost_ret (v := opV (onImm (z))) (results_cell_row rfl _ _ w.heap.size 31 _ (0, 0) _ rfl F2.z.h Tryz.underlying31 rfl (szOp onZ)) rfl ⟨rfl, F2.r, F2.k⟩
set_option maxRecDepth 8000 in
theorem oper_7n (R : Rd w N B a len cap zs p c m) (h : ¬ p + 1 ≤ zs.length) :
    Calls Tryz.prog 259 #[rp B, .int .i64 7] w fun e w' => e = .panicked (errP 10) ∧ But [B] w.heap.size w w' := by
  have hN := Lib.hid (fun W (R : Rd W N B a len cap zs p c m) => next1_no R h)
  have F := PF.start R 31 z6
  go_enter Tryz.func259, Tryz.ntmps259
  go_wp2_with fail
  generalize w.alloc (.cells z6 31) = w1 at *
  go_wp2_with ((with_reducible refine (hN.out _ F.r).mono ?_); rintro e W4 ⟨rfl, b4⟩)
  exact ⟨rfl, rfl, F.k.trans (But.of (b4.mono F.k.size) _)⟩
set_option maxRecDepth 8000 in
theorem oper_8 (R : Rd w N B a len cap zs p c m) (h : p + 1 ≤ zs.length) :
    Calls Tryz.prog 259 #[rp B, .int .i64 8] w fun e w' => e = .returned (opV (onImm (sx (zs.getD p 0)))) ∧ Rd w' N B a len cap zs (p + 1) c m ∧ But [B] w.heap.size w w' := by
  have hN := Lib.hid (fun W (R : Rd W N B a len cap zs p c m) => next1_yes R h)
  generalize zs.getD p 0 = z at *
  have F := PF.start R 31 z6
  have hB := R.lt
  have c2 := F.r.c2
  have c3 := F.r.c3
  go_enter Tryz.func259, Tryz.ntmps259
  go_wp2_with fail
  generalize w.alloc (.cells z6 31) = w1 at *
  go_wp2_with (first | ((with_reducible refine (hN.out _ F.r).mono ?_); rintro e W1 ⟨rfl, r1, b1⟩; replace F := F.read r1 b1) | ((with_reducible refine (sign8s_any z _).mono ?_); rintro e W2 ⟨rfl, rfl⟩) | ((with_reducible refine (number_anyD (sx z) _).mono ?_); rintro e W3 ⟨rfl, b3⟩; replace F := F.below b3) | ((with_reducible refine store_opR rfl _ _ rfl w.heap.size (op6 (onImm (sx (z)))) z6 rfl rfl F.z (op6_size _) z6_size (op6_one _) ?_); intro W4 z4 k4 s4; have F2 := F.done z4 k4))
  exact bodyPost_ret (v := opV (onImm (sx (z)))) (results_cell_row rfl _ _ w.heap.size 31 _ (0, 0) _ rfl F2.z.h Tryz.underlying31 rfl (szOp onZ)) rfl ⟨rfl, F2.r, F2.k⟩
set_option maxRecDepth 8000 in
theorem oper_8n (R : Rd w N B a len cap zs p c m) (h : ¬ p + 1 ≤ zs.length) :
    Calls Tryz.prog 259 #[rp B, .int .i64 8] w fun e w' => e = .panicked (errP 10) ∧ But [B] w.heap.size w w' := by
  have hN := Lib.hid (fun W (R : Rd W N B a len cap zs p c m) => next1_no R h)
  have F := PF.start R 31 z6
  go_enter Tryz.func259, Tryz.ntmps259
  go_wp2_with fail
  generalize w.alloc (.cells z6 31) = w1 at *
  go_wp2_with ((with_reducible refine (hN.out _ F.r).mono ?_); rintro e W4 ⟨rfl, b4⟩)
  exact ⟨rfl, rfl, F.k.trans (But.of (b4.mono F.k.size) _)⟩
set_option maxRecDepth 8000 in
theorem oper_9 (R : Rd w N B a len cap zs p c m) (h : p + 4 ≤ zs.length) :
    Calls Tryz.prog 259 #[rp B, .int .i64 9] w fun e w' => e = .returned (opV (onImm (le4 zs p))) ∧ Rd w' N B a len cap zs (p + 4) c m ∧ But [B] w.heap.size w w' := by
  have hN := Lib.hid (fun W (R : Rd W N B a len cap zs p c m) => next4_yes R h)
  have F := PF.start R 31 z6
  have hB := R.lt
  have c2 := F.r.c2
  have c3 := F.r.c3
  go_enter Tryz.func259, Tryz.ntmps259
  go_wp2_with fail
  generalize w.alloc (.cells z6 31) = w1 at *
  go_wp2_with (first | ((with_reducible refine (hN.out _ F.r).mono ?_); rintro e W1 ⟨rfl, r1, b1⟩; replace F := F.read r1 b1) | ((with_reducible refine (number_anyD (le4 zs p) _).mono ?_); rintro e W3 ⟨rfl, b3⟩; replace F := F.below b3) | ((with_reducible refine store_opR rfl _ _ rfl w.heap.size (op6 (onImm (le4 zs p))) z6 rfl rfl F.z (op6_size _) z6_size (op6_one _) ?_); intro W4 z4 k4 s4; have F2 := F.done z4 k4))
  exact bodyPost_ret (v := opV (onImm (le4 zs p))) (results_cell_row rfl _ _ w.heap.size 31 _ (0, 0) _ rfl F2.z.h Tryz.underlying31 rfl (szOp onZ)) rfl ⟨rfl, F2.r, F2.k⟩
set_option maxRecDepth 8000 in
theorem oper_9n (R : Rd w N B a len cap zs p c m) (h : ¬ p + 4 ≤ zs.length) :
    Calls Tryz.prog 259 #[rp B, .int .i64 9] w fun e w' => e = .panicked (errP 10) ∧ But [B] w.heap.size w w' := by
  have hN := Lib.hid (fun W (R : Rd W N B a len cap zs p c m) => next4_no R h)
  have F := PF.start R 31 z6
  go_enter Tryz.func259, Tryz.ntmps259
  go_wp2_with fail
  generalize w.alloc (.cells z6 31) = w1 at *
  go_wp2_with ((with_reducible refine (hN.out _ F.r).mono ?_); rintro e W4 ⟨rfl, b4⟩)
  exact ⟨rfl, rfl, F.k.trans (But.of (b4.mono F.k.size) _)⟩
set_option maxRecDepth 8000 in
theorem oper_0 (R : Rd w N B a len cap zs p c m)  :
    Calls Tryz.prog 259 #[rp B, .int .i64 0] w fun e w' => e = .returned (opV (onZ)) ∧ Rd w' N B a len cap zs p c m ∧ But [B] w.heap.size w w' := by
  have F := PF.start R 31 z6
  have hB := R.lt
  have c2 := F.r.c2
  have c3 := F.r.c3
  go_enter Tryz.func259, Tryz.ntmps259
  go_wp2_with fail
  generalize w.alloc (.cells z6 31) = w1 at *
  go_wp2_with (first | fail | ((with_reducible refine store_opR rfl _ _ rfl w.heap.size (z6) z6 rfl rfl F.z (z6_size) z6_size (z6_one) ?_); intro W4 z4 k4 s4; have F2 := F.done z4 k4))
  exact bodyPost_ret (v := opV (onZ)) (results_cell_row rfl _ _ w.heap.size 31 _ (0, 0) _ rfl F.z.h Tryz.underlying31 rfl (szOp onZ)) rfl ⟨rfl, F.r, F.k⟩
theorem operand_yes (R : Rd w N B a len cap zs p c m) (k : Int) {o : On} {q : Nat} (h : operM zs c m p k = some (o, q)) :
    k = 0 ∨ k = 1 ∨ k = 2 ∨ k = 3 ∨ k = 4 ∨ k = 5 ∨ k = 6 ∨ k = 7 ∨ k = 8 ∨ k = 9 → Calls Tryz.prog 259 #[rp B, .int .i64 k] w fun e w' => e = .returned (opV o) ∧ Rd w' N B a len cap zs q c m ∧ But [B] w.heap.size w w' := by
  unfold operM at h
  rintro (rfl | rfl | rfl | rfl | rfl | rfl | rfl | rfl | rfl | rfl) <;> simp only [reduceIte, Int.reduceEq] at h
  · obtain ⟨rfl, rfl⟩ := Prod.mk.inj (Option.some.inj h); exact oper_0 R
  · obtain ⟨rfl, rfl⟩ := Prod.mk.inj (Option.some.inj h); exact oper_1 R
  · obtain ⟨rfl, rfl⟩ := Prod.mk.inj (Option.some.inj h); exact oper_2 R
  · obtain ⟨rfl, rfl⟩ := Prod.mk.inj (Option.some.inj h); exact oper_3 R
  · obtain ⟨rfl, rfl⟩ := Prod.mk.inj (Option.some.inj h); exact oper_4 R
  · obtain ⟨rfl, rfl⟩ := Prod.mk.inj (Option.some.inj h); exact oper_5 R
  · exact oper_6 R h
  · split at h
    · obtain ⟨rfl, rfl⟩ := Prod.mk.inj (Option.some.inj h); exact oper_7 R (by assumption)
    · cases h
  · split at h
    · obtain ⟨rfl, rfl⟩ := Prod.mk.inj (Option.some.inj h); exact oper_8 R (by assumption)
    · cases h
  · split at h
    · obtain ⟨rfl, rfl⟩ := Prod.mk.inj (Option.some.inj h); exact oper_9 R (by assumption)
    · cases h
theorem operand_no (R : Rd w N B a len cap zs p c m) (k : Int) (h : operM zs c m p k = none) :
    k = 0 ∨ k = 1 ∨ k = 2 ∨ k = 3 ∨ k = 4 ∨ k = 5 ∨ k = 6 ∨ k = 7 ∨ k = 8 ∨ k = 9 → Calls Tryz.prog 259 #[rp B, .int .i64 k] w fun e w' => e = .panicked (errP 10) ∧ But [B] w.heap.size w w' := by
  unfold operM at h
  rintro (rfl | rfl | rfl | rfl | rfl | rfl | rfl | rfl | rfl | rfl) <;> simp only [reduceIte, Int.reduceEq] at h
  · cases h
  · cases h
  · cases h
  · cases h
  · cases h
  · cases h
  · exact oper_6n R h
  · split at h
    · cases h
    · exact oper_7n R (by assumption)
  · split at h
    · cases h
    · exact oper_8n R (by assumption)
  · split at h
    · cases h
    · exact oper_9n R (by assumption)
end
end Go.Proofs.YtcdoidnfdkodoaaGreatDoor
