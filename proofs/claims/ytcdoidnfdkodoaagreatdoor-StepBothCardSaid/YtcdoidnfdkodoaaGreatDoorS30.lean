import Derived.Test.YtcdoidnfdkodoaaGreatDoorS29
namespace Go.Proofs.YtcdoidnfdkodoaaGreatDoor
open Go.RowKit
set_option linter.unusedVariables false
set_option linter.unusedSimpArgs false
set_option linter.unusedSectionVars false
theorem in16_lt (i : In) (k : Nat) (h : k < 16) : k < (in16 i).size := h
theorem sz_int : (Tryz.prog.info? 3).map (·.size) = some 1 := by kernel_rfl
theorem sz_bool : (Tryz.prog.info? 4).map (·.size) = some 1 := by kernel_rfl
section
variable {w : World} {N : Nat} {a : Option Addr} {len cap : Nat} {zs : List Int} {p : Nat} {c m : Int}
set_option maxRecDepth 8000 in
theorem by_as (V : Rv w N a len cap zs p c m) (tabs : Tabs w) (g cc op eb : Int) (ok : (⟨g, cc, op, 6, eb⟩ : Rw).ok) (hp : ¬ p + 1 ≤ zs.length) :
    Calls Tryz.prog 248 #[rdV a len cap p c m, rwV (⟨g, cc, op, 6, eb⟩ : Rw)] w fun e w' => e = .panicked (errP 10) ∧ Below w.heap.size w w' := by
  have F := BF.start V tabs (⟨g, cc, op, 6, eb⟩ : Rw)
  have hz := getD_bd V.row.2.1 p
  have hN := Lib.hid (fun W (R : Rd W N w.heap.size a len cap zs p c m) => next1_no R hp)
  generalize zs.getD p 0 = mv at *
  clear ok V
  go_enter Tryz.func248, Tryz.ntmps248
  go_upto_region 1 with fail
  generalize ((w.alloc (.cells #[.slice a len cap, .int .i64 p, .int .u32 c, .int .u32 m] 202)).alloc (.cells (rw5 (⟨g, cc, op, 6, eb⟩ : Rw)) 226)).alloc (.cells z16 33) = w1 at *
  have d3 := F.e.cell (i := 3) (v := .int .i64 6) rfl
  have d4 := F.e.cell (i := 4) (v := .int .i64 eb) rfl
  go_wp2_with ((with_reducible refine (hN.out _ F.r).mono ?_); rintro e W2 ⟨rfl, b2⟩)
  exact ⟨rfl, rfl, F.k.trans (b2.mono F.k.size)⟩
set_option maxRecDepth 8000 in
theorem by_az (V : Rv w N a len cap zs p c m) (tabs : Tabs w) (g cc op eb : Int) (ok : (⟨g, cc, op, 6, eb⟩ : Rw).ok) (hp : p + 1 ≤ zs.length) (hov : opM c (zs.getD p 0) (⟨g, cc, op, 6, eb⟩ : Rw) = 0) :
    Calls Tryz.prog 248 #[rdV a len cap p c m, rwV (⟨g, cc, op, 6, eb⟩ : Rw)] w fun e w' => e = .returned (inV inZ) ∧ Below w.heap.size w w' := by
  have F := BF.start V tabs (⟨g, cc, op, 6, eb⟩ : Rw)
  have hO := Lib.hid (fun W (R : Rd W N w.heap.size a len cap zs (p + 1) c (zs.getD p 0)) (t : Tabs W) => operation_any R t (⟨g, cc, op, 6, eb⟩ : Rw) ok.2.2)
  rw [hov] at hO
  have hz := getD_bd V.row.2.1 p
  have hN := Lib.hid (fun W (R : Rd W N w.heap.size a len cap zs p c m) => next1_yes R hp)
  clear hov
  generalize zs.getD p 0 = mv at *
  clear ok V
  go_enter Tryz.func248, Tryz.ntmps248
  go_upto_region 1 with fail
  generalize ((w.alloc (.cells #[.slice a len cap, .int .i64 p, .int .u32 c, .int .u32 m] 202)).alloc (.cells (rw5 (⟨g, cc, op, 6, eb⟩ : Rw)) 226)).alloc (.cells z16 33) = w1 at *
  have d3 := F.e.cell (i := 3) (v := .int .i64 6) rfl
  have d4 := F.e.cell (i := 4) (v := .int .i64 eb) rfl
  go_upto_region 3 with ((with_reducible refine (hN.out _ F.r).mono ?_); rintro e W2 ⟨rfl, r2, b2⟩; have F2 := F.read tabs r2 b2; have c3 := F2.r.c3; have f3 := F2.r.blk.fr 3)
  have F3 := F2.set3 tabs mv (by omega)
  clear c3 f3 d3 d4
  generalize W2.setCell ⟨w.heap.size, 3, none⟩ (.int .u32 mv) = W3 at *
  go_upto_region 4 with (first | (with_reducible refine load_rwR rfl _ rfl (w.heap.size + 1) (⟨g, cc, op, 6, eb⟩ : Rw) rfl F3.e ?_) | ((with_reducible refine (hO.out _ F3.r F3.t).mono ?_); rintro e W4 ⟨rfl, b4⟩; have F4 := F3.below tabs b4) | ((with_reducible refine store_in_as rfl _ _ rfl (zI 0) (zI_size _) (zI_one _) rfl rfl ?_); intro W5 kI b5))
  have F5 := F4.below tabs b5
  have hK := F4.lt
  generalize W4.heap.size = K at *
  have d0 := kI.cell (i := 0) (v := .int .i64 0) rfl
  go_wp2_with (first | (with_reducible refine load_inR rfl _ rfl K (zI 0) rfl kI (zI_size _) ?_) | ((with_reducible refine store_inR rfl _ _ rfl (w.heap.size + 2) (zI 0) z16 rfl rfl F5.z (zI_size _) z16_size (zI_one _) ?_); intro W6 z6 b6 s6; have F6 := F5.done tabs z6 b6))
  exact bodyPost_ret (v := inV inZ) (results_cell_row rfl _ _ (w.heap.size + 2) 33 _ (0, 0) _ rfl F6.z.h Tryz.underlying33 rfl (szIn inZ)) rfl ⟨rfl, F6.k⟩
set_option maxRecDepth 8000 in
theorem by_an (V : Rv w N a len cap zs p c m) (tabs : Tabs w) (g cc op eb : Int) (ok : (⟨g, cc, op, 6, eb⟩ : Rw).ok) (hp : p + 1 ≤ zs.length) (hov : opM c (zs.getD p 0) (⟨g, cc, op, 6, eb⟩ : Rw) = -1) :
    Calls Tryz.prog 248 #[rdV a len cap p c m, rwV (⟨g, cc, op, 6, eb⟩ : Rw)] w fun e w' => e = .panicked (errP 90) ∧ Below w.heap.size w w' := by
  have F := BF.start V tabs (⟨g, cc, op, 6, eb⟩ : Rw)
  have hO := Lib.hid (fun W (R : Rd W N w.heap.size a len cap zs (p + 1) c (zs.getD p 0)) (t : Tabs W) => operation_any R t (⟨g, cc, op, 6, eb⟩ : Rw) ok.2.2)
  rw [hov] at hO
  have hz := getD_bd V.row.2.1 p
  have hN := Lib.hid (fun W (R : Rd W N w.heap.size a len cap zs p c m) => next1_yes R hp)
  clear hov
  generalize zs.getD p 0 = mv at *
  clear ok V
  go_enter Tryz.func248, Tryz.ntmps248
  go_upto_region 1 with fail
  generalize ((w.alloc (.cells #[.slice a len cap, .int .i64 p, .int .u32 c, .int .u32 m] 202)).alloc (.cells (rw5 (⟨g, cc, op, 6, eb⟩ : Rw)) 226)).alloc (.cells z16 33) = w1 at *
  have d3 := F.e.cell (i := 3) (v := .int .i64 6) rfl
  have d4 := F.e.cell (i := 4) (v := .int .i64 eb) rfl
  go_upto_region 3 with ((with_reducible refine (hN.out _ F.r).mono ?_); rintro e W2 ⟨rfl, r2, b2⟩; have F2 := F.read tabs r2 b2; have c3 := F2.r.c3; have f3 := F2.r.blk.fr 3)
  have F3 := F2.set3 tabs mv (by omega)
  clear c3 f3 d3 d4
  generalize W2.setCell ⟨w.heap.size, 3, none⟩ (.int .u32 mv) = W3 at *
  go_upto_region 4 with (first | (with_reducible refine load_rwR rfl _ rfl (w.heap.size + 1) (⟨g, cc, op, 6, eb⟩ : Rw) rfl F3.e ?_) | ((with_reducible refine (hO.out _ F3.r F3.t).mono ?_); rintro e W4 ⟨rfl, b4⟩; have F4 := F3.below tabs b4) | ((with_reducible refine store_in_as rfl _ _ rfl (zI (-1)) (zI_size _) (zI_one _) rfl rfl ?_); intro W5 kI b5))
  have F5 := F4.below tabs b5
  have hK := F4.lt
  generalize W4.heap.size = K at *
  have d0 := kI.cell (i := 0) (v := .int .i64 (-1)) rfl
  go_wp2_with fail
  exact ⟨rfl, rfl, F5.k⟩
set_option maxRecDepth 8000 in
theorem by_aAnc (V : Rv w N a len cap zs p c m) (tabs : Tabs w) ( cc op eb : Int) (ok : (⟨65520, cc, op, 6, eb⟩ : Rw).ok) (hp : p + 1 ≤ zs.length) (h0 : ¬ opM c (zs.getD p 0) (⟨65520, cc, op, 6, eb⟩ : Rw) = 0) (h1 : ¬ opM c (zs.getD p 0) (⟨65520, cc, op, 6, eb⟩ : Rw) = -1) (hA : operM zs c (zs.getD p 0) (p + 1) 6 = none) :
    Calls Tryz.prog 248 #[rdV a len cap p c m, rwV (⟨65520, cc, op, 6, eb⟩ : Rw)] w fun e w' => e = .panicked (errP 10) ∧ Below w.heap.size w w' := by
  have F := BF.start V tabs (⟨65520, cc, op, 6, eb⟩ : Rw)
  have hO := Lib.hid (fun W (R : Rd W N w.heap.size a len cap zs (p + 1) c (zs.getD p 0)) (t : Tabs W) => operation_any R t (⟨65520, cc, op, 6, eb⟩ : Rw) ok.2.2)
  have hz := getD_bd V.row.2.1 p
  have hN := Lib.hid (fun W (R : Rd W N w.heap.size a len cap zs p c m) => next1_yes R hp)
  have hF := fun W => field_any c 0 4 V.cb (by decide) W
  rw [show fieldS c 0 4 = c % 16 from field_low c 4 (by decide)] at hF
  have hcA := Lib.hid (fun W (R : Rd W N w.heap.size a len cap zs (p + 1) c (zs.getD p 0)) => operand_no R 6 hA ok.1)
  clear hA
  generalize opM c (zs.getD p 0) (⟨65520, cc, op, 6, eb⟩ : Rw) = ov at *
  generalize zs.getD p 0 = mv at *
  clear ok V
  go_enter Tryz.func248, Tryz.ntmps248
  go_upto_region 1 with fail
  generalize ((w.alloc (.cells #[.slice a len cap, .int .i64 p, .int .u32 c, .int .u32 m] 202)).alloc (.cells (rw5 (⟨65520, cc, op, 6, eb⟩ : Rw)) 226)).alloc (.cells z16 33) = w1 at *
  have d3 := F.e.cell (i := 3) (v := .int .i64 6) rfl
  have d4 := F.e.cell (i := 4) (v := .int .i64 eb) rfl
  go_upto_region 3 with ((with_reducible refine (hN.out _ F.r).mono ?_); rintro e W2 ⟨rfl, r2, b2⟩; have F2 := F.read tabs r2 b2; have c3 := F2.r.c3; have f3 := F2.r.blk.fr 3)
  have F3 := F2.set3 tabs mv (by omega)
  clear c3 f3 d3 d4
  generalize W2.setCell ⟨w.heap.size, 3, none⟩ (.int .u32 mv) = W3 at *
  go_upto_region 4 with (first | (with_reducible refine load_rwR rfl _ rfl (w.heap.size + 1) (⟨65520, cc, op, 6, eb⟩ : Rw) rfl F3.e ?_) | ((with_reducible refine (hO.out _ F3.r F3.t).mono ?_); rintro e W4 ⟨rfl, b4⟩; have F4 := F3.below tabs b4) | ((with_reducible refine store_in_as rfl _ _ rfl (zI ov) (zI_size _) (zI_one _) rfl rfl ?_); intro W5 kI b5))
  have F5 := F4.below tabs b5
  have hK := F4.lt
  generalize W4.heap.size = K at *
  have d0 := kI.cell (i := 0) (v := .int .i64 ov) rfl
  go_upto_region 9 with fail
  clear d0
  have kI5 : Blk W5 K 33 (in16 ⟨ov, 0, onZ, onZ, false, 0⟩) := kI
  have dg := F5.e.cell (i := 0) (v := .int .u32 65520) rfl
  have c2 := F5.r.c2
  go_upto_region 11 with (first | ((with_reducible refine (hF _).mono ?_); rintro e W ⟨rfl, rfl⟩) | ((with_reducible refine store_cell rfl 3 _ _ rfl sz_int K 33 (in16 ⟨ov, 0, onZ, onZ, false, 0⟩) (in16 ⟨ov, c % 16, onZ, onZ, false, 0⟩) 1 (.int .i64 (c % 16)) rfl rfl kI5 (in16_lt _ _ (by decide)) rfl rfl rfl ?_); intro W6 kI6 b6 s6))
  have F6 := F5.but tabs b6 (by simpa using hK)
  clear c2 dg
  have d3 := F6.e.cell (i := 3) (v := .int .i64 6) rfl
  go_wp2_with ((with_reducible refine (hcA.out _ F6.r).mono ?_); rintro e W7 ⟨rfl, b7⟩)
  exact ⟨rfl, rfl, F6.k.trans (b7.below F6.k.size (by simp))⟩
set_option maxRecDepth 8000 in
theorem by_aAnp (V : Rv w N a len cap zs p c m) (tabs : Tabs w) (g cc op eb : Int) (ok : (⟨g, cc, op, 6, eb⟩ : Rw).ok) (hp : p + 1 ≤ zs.length) (h0 : ¬ opM c (zs.getD p 0) (⟨g, cc, op, 6, eb⟩ : Rw) = 0) (h1 : ¬ opM c (zs.getD p 0) (⟨g, cc, op, 6, eb⟩ : Rw) = -1) (hg : ¬ g = 65520) (hA : operM zs c (zs.getD p 0) (p + 1) 6 = none) :
    Calls Tryz.prog 248 #[rdV a len cap p c m, rwV (⟨g, cc, op, 6, eb⟩ : Rw)] w fun e w' => e = .panicked (errP 10) ∧ Below w.heap.size w w' := by
  have F := BF.start V tabs (⟨g, cc, op, 6, eb⟩ : Rw)
  have hO := Lib.hid (fun W (R : Rd W N w.heap.size a len cap zs (p + 1) c (zs.getD p 0)) (t : Tabs W) => operation_any R t (⟨g, cc, op, 6, eb⟩ : Rw) ok.2.2)
  have hz := getD_bd V.row.2.1 p
  have hN := Lib.hid (fun W (R : Rd W N w.heap.size a len cap zs p c m) => next1_yes R hp)
  have hcA := Lib.hid (fun W (R : Rd W N w.heap.size a len cap zs (p + 1) c (zs.getD p 0)) => operand_no R 6 hA ok.1)
  clear hA
  generalize opM c (zs.getD p 0) (⟨g, cc, op, 6, eb⟩ : Rw) = ov at *
  generalize zs.getD p 0 = mv at *
  clear ok V
  go_enter Tryz.func248, Tryz.ntmps248
  go_upto_region 1 with fail
  generalize ((w.alloc (.cells #[.slice a len cap, .int .i64 p, .int .u32 c, .int .u32 m] 202)).alloc (.cells (rw5 (⟨g, cc, op, 6, eb⟩ : Rw)) 226)).alloc (.cells z16 33) = w1 at *
  have d3 := F.e.cell (i := 3) (v := .int .i64 6) rfl
  have d4 := F.e.cell (i := 4) (v := .int .i64 eb) rfl
  go_upto_region 3 with ((with_reducible refine (hN.out _ F.r).mono ?_); rintro e W2 ⟨rfl, r2, b2⟩; have F2 := F.read tabs r2 b2; have c3 := F2.r.c3; have f3 := F2.r.blk.fr 3)
  have F3 := F2.set3 tabs mv (by omega)
  clear c3 f3 d3 d4
  generalize W2.setCell ⟨w.heap.size, 3, none⟩ (.int .u32 mv) = W3 at *
  go_upto_region 4 with (first | (with_reducible refine load_rwR rfl _ rfl (w.heap.size + 1) (⟨g, cc, op, 6, eb⟩ : Rw) rfl F3.e ?_) | ((with_reducible refine (hO.out _ F3.r F3.t).mono ?_); rintro e W4 ⟨rfl, b4⟩; have F4 := F3.below tabs b4) | ((with_reducible refine store_in_as rfl _ _ rfl (zI ov) (zI_size _) (zI_one _) rfl rfl ?_); intro W5 kI b5))
  have F5 := F4.below tabs b5
  have hK := F4.lt
  generalize W4.heap.size = K at *
  have d0 := kI.cell (i := 0) (v := .int .i64 ov) rfl
  go_upto_region 9 with fail
  clear d0
  have kI5 : Blk W5 K 33 (in16 ⟨ov, 0, onZ, onZ, false, 0⟩) := kI
  have dg := F5.e.cell (i := 0) (v := .int .u32 g) rfl
  go_upto_region 11 with fail
  have F6 := F5
  have kI6 := kI5
  clear dg
  have d3 := F6.e.cell (i := 3) (v := .int .i64 6) rfl
  go_wp2_with ((with_reducible refine (hcA.out _ F6.r).mono ?_); rintro e W7 ⟨rfl, b7⟩)
  exact ⟨rfl, rfl, F6.k.trans (b7.below F6.k.size (by simp))⟩
set_option maxRecDepth 8000 in
theorem by_aBnc (V : Rv w N a len cap zs p c m) (tabs : Tabs w) ( cc op eb : Int) (ok : (⟨65520, cc, op, 6, eb⟩ : Rw).ok) (hp : p + 1 ≤ zs.length) (h0 : ¬ opM c (zs.getD p 0) (⟨65520, cc, op, 6, eb⟩ : Rw) = 0) (h1 : ¬ opM c (zs.getD p 0) (⟨65520, cc, op, 6, eb⟩ : Rw) = -1) {A : On} {q : Nat} (hA : operM zs c (zs.getD p 0) (p + 1) 6 = some (A, q)) (hB : operM zs c (zs.getD p 0) q eb = none) :
    Calls Tryz.prog 248 #[rdV a len cap p c m, rwV (⟨65520, cc, op, 6, eb⟩ : Rw)] w fun e w' => e = .panicked (errP 10) ∧ Below w.heap.size w w' := by
  have F := BF.start V tabs (⟨65520, cc, op, 6, eb⟩ : Rw)
  have hO := Lib.hid (fun W (R : Rd W N w.heap.size a len cap zs (p + 1) c (zs.getD p 0)) (t : Tabs W) => operation_any R t (⟨65520, cc, op, 6, eb⟩ : Rw) ok.2.2)
  have hz := getD_bd V.row.2.1 p
  have hN := Lib.hid (fun W (R : Rd W N w.heap.size a len cap zs p c m) => next1_yes R hp)
  have hF := fun W => field_any c 0 4 V.cb (by decide) W
  rw [show fieldS c 0 4 = c % 16 from field_low c 4 (by decide)] at hF
  have hcA := Lib.hid (fun W (R : Rd W N w.heap.size a len cap zs (p + 1) c (zs.getD p 0)) => operand_yes R 6 hA ok.1)
  have hcB := Lib.hid (fun W (R : Rd W N w.heap.size a len cap zs q c (zs.getD p 0)) => operand_no R eb hB ok.2.1)
  clear hA hB
  generalize opM c (zs.getD p 0) (⟨65520, cc, op, 6, eb⟩ : Rw) = ov at *
  generalize zs.getD p 0 = mv at *
  clear ok V
  go_enter Tryz.func248, Tryz.ntmps248
  go_upto_region 1 with fail
  generalize ((w.alloc (.cells #[.slice a len cap, .int .i64 p, .int .u32 c, .int .u32 m] 202)).alloc (.cells (rw5 (⟨65520, cc, op, 6, eb⟩ : Rw)) 226)).alloc (.cells z16 33) = w1 at *
  have d3 := F.e.cell (i := 3) (v := .int .i64 6) rfl
  have d4 := F.e.cell (i := 4) (v := .int .i64 eb) rfl
  go_upto_region 3 with ((with_reducible refine (hN.out _ F.r).mono ?_); rintro e W2 ⟨rfl, r2, b2⟩; have F2 := F.read tabs r2 b2; have c3 := F2.r.c3; have f3 := F2.r.blk.fr 3)
  have F3 := F2.set3 tabs mv (by omega)
  clear c3 f3 d3 d4
  generalize W2.setCell ⟨w.heap.size, 3, none⟩ (.int .u32 mv) = W3 at *
  go_upto_region 4 with (first | (with_reducible refine load_rwR rfl _ rfl (w.heap.size + 1) (⟨65520, cc, op, 6, eb⟩ : Rw) rfl F3.e ?_) | ((with_reducible refine (hO.out _ F3.r F3.t).mono ?_); rintro e W4 ⟨rfl, b4⟩; have F4 := F3.below tabs b4) | ((with_reducible refine store_in_as rfl _ _ rfl (zI ov) (zI_size _) (zI_one _) rfl rfl ?_); intro W5 kI b5))
  have F5 := F4.below tabs b5
  have hK := F4.lt
  generalize W4.heap.size = K at *
  have d0 := kI.cell (i := 0) (v := .int .i64 ov) rfl
  go_upto_region 9 with fail
  clear d0
  have kI5 : Blk W5 K 33 (in16 ⟨ov, 0, onZ, onZ, false, 0⟩) := kI
  have dg := F5.e.cell (i := 0) (v := .int .u32 65520) rfl
  have c2 := F5.r.c2
  go_upto_region 11 with (first | ((with_reducible refine (hF _).mono ?_); rintro e W ⟨rfl, rfl⟩) | ((with_reducible refine store_cell rfl 3 _ _ rfl sz_int K 33 (in16 ⟨ov, 0, onZ, onZ, false, 0⟩) (in16 ⟨ov, c % 16, onZ, onZ, false, 0⟩) 1 (.int .i64 (c % 16)) rfl rfl kI5 (in16_lt _ _ (by decide)) rfl rfl rfl ?_); intro W6 kI6 b6 s6))
  have F6 := F5.but tabs b6 (by simpa using hK)
  clear c2 dg
  have d3 := F6.e.cell (i := 3) (v := .int .i64 6) rfl
  go_upto_region 12 with (first | ((with_reducible refine (hcA.out _ F6.r).mono ?_); rintro e W7 ⟨rfl, r7, b7⟩; have F7 := F6.read tabs r7 b7; have kI7 := kI6.but b7 kI6.lt (by simp; omega)) | ((with_reducible refine store_opA rfl _ _ rfl K ⟨ov, (c % 16), onZ, onZ, false, 0⟩ A rfl rfl kI7 ?_); intro W8 kI8 b8 s8))
  have F8 := F7.but tabs b8 (by simpa using hK)
  clear d3
  have d4 := F8.e.cell (i := 4) (v := .int .i64 eb) rfl
  go_wp2_with ((with_reducible refine (hcB.out _ F8.r).mono ?_); rintro e W9 ⟨rfl, b9⟩)
  exact ⟨rfl, rfl, F8.k.trans (b9.below F8.k.size (by simp))⟩
set_option maxRecDepth 8000 in
theorem by_aBnp (V : Rv w N a len cap zs p c m) (tabs : Tabs w) (g cc op eb : Int) (ok : (⟨g, cc, op, 6, eb⟩ : Rw).ok) (hp : p + 1 ≤ zs.length) (h0 : ¬ opM c (zs.getD p 0) (⟨g, cc, op, 6, eb⟩ : Rw) = 0) (h1 : ¬ opM c (zs.getD p 0) (⟨g, cc, op, 6, eb⟩ : Rw) = -1) (hg : ¬ g = 65520) {A : On} {q : Nat} (hA : operM zs c (zs.getD p 0) (p + 1) 6 = some (A, q)) (hB : operM zs c (zs.getD p 0) q eb = none) :
    Calls Tryz.prog 248 #[rdV a len cap p c m, rwV (⟨g, cc, op, 6, eb⟩ : Rw)] w fun e w' => e = .panicked (errP 10) ∧ Below w.heap.size w w' := by
  have F := BF.start V tabs (⟨g, cc, op, 6, eb⟩ : Rw)
  have hO := Lib.hid (fun W (R : Rd W N w.heap.size a len cap zs (p + 1) c (zs.getD p 0)) (t : Tabs W) => operation_any R t (⟨g, cc, op, 6, eb⟩ : Rw) ok.2.2)
  have hz := getD_bd V.row.2.1 p
  have hN := Lib.hid (fun W (R : Rd W N w.heap.size a len cap zs p c m) => next1_yes R hp)
  have hcA := Lib.hid (fun W (R : Rd W N w.heap.size a len cap zs (p + 1) c (zs.getD p 0)) => operand_yes R 6 hA ok.1)
  have hcB := Lib.hid (fun W (R : Rd W N w.heap.size a len cap zs q c (zs.getD p 0)) => operand_no R eb hB ok.2.1)
  clear hA hB
  generalize opM c (zs.getD p 0) (⟨g, cc, op, 6, eb⟩ : Rw) = ov at *
  generalize zs.getD p 0 = mv at *
  clear ok V
  go_enter Tryz.func248, Tryz.ntmps248
  go_upto_region 1 with fail
  generalize ((w.alloc (.cells #[.slice a len cap, .int .i64 p, .int .u32 c, .int .u32 m] 202)).alloc (.cells (rw5 (⟨g, cc, op, 6, eb⟩ : Rw)) 226)).alloc (.cells z16 33) = w1 at *
  have d3 := F.e.cell (i := 3) (v := .int .i64 6) rfl
  have d4 := F.e.cell (i := 4) (v := .int .i64 eb) rfl
  go_upto_region 3 with ((with_reducible refine (hN.out _ F.r).mono ?_); rintro e W2 ⟨rfl, r2, b2⟩; have F2 := F.read tabs r2 b2; have c3 := F2.r.c3; have f3 := F2.r.blk.fr 3)
  have F3 := F2.set3 tabs mv (by omega)
  clear c3 f3 d3 d4
  generalize W2.setCell ⟨w.heap.size, 3, none⟩ (.int .u32 mv) = W3 at *
  go_upto_region 4 with (first | (with_reducible refine load_rwR rfl _ rfl (w.heap.size + 1) (⟨g, cc, op, 6, eb⟩ : Rw) rfl F3.e ?_) | ((with_reducible refine (hO.out _ F3.r F3.t).mono ?_); rintro e W4 ⟨rfl, b4⟩; have F4 := F3.below tabs b4) | ((with_reducible refine store_in_as rfl _ _ rfl (zI ov) (zI_size _) (zI_one _) rfl rfl ?_); intro W5 kI b5))
  have F5 := F4.below tabs b5
  have hK := F4.lt
  generalize W4.heap.size = K at *
  have d0 := kI.cell (i := 0) (v := .int .i64 ov) rfl
  go_upto_region 9 with fail
  clear d0
  have kI5 : Blk W5 K 33 (in16 ⟨ov, 0, onZ, onZ, false, 0⟩) := kI
  have dg := F5.e.cell (i := 0) (v := .int .u32 g) rfl
  go_upto_region 11 with fail
  have F6 := F5
  have kI6 := kI5
  clear dg
  have d3 := F6.e.cell (i := 3) (v := .int .i64 6) rfl
  go_upto_region 12 with (first | ((with_reducible refine (hcA.out _ F6.r).mono ?_); rintro e W7 ⟨rfl, r7, b7⟩; have F7 := F6.read tabs r7 b7; have kI7 := kI6.but b7 kI6.lt (by simp; omega)) | ((with_reducible refine store_opA rfl _ _ rfl K ⟨ov, 0, onZ, onZ, false, 0⟩ A rfl rfl kI7 ?_); intro W8 kI8 b8 s8))
  have F8 := F7.but tabs b8 (by simpa using hK)
  clear d3
  have d4 := F8.e.cell (i := 4) (v := .int .i64 eb) rfl
  go_wp2_with ((with_reducible refine (hcB.out _ F8.r).mono ?_); rintro e W9 ⟨rfl, b9⟩)
  exact ⟨rfl, rfl, F8.k.trans (b9.below F8.k.size (by simp))⟩
set_option maxRecDepth 8000 in
theorem by_aokc (V : Rv w N a len cap zs p c m) (tabs : Tabs w) ( cc op eb : Int) (ok : (⟨65520, cc, op, 6, eb⟩ : Rw).ok) (hp : p + 1 ≤ zs.length) (h0 : ¬ opM c (zs.getD p 0) (⟨65520, cc, op, 6, eb⟩ : Rw) = 0) (h1 : ¬ opM c (zs.getD p 0) (⟨65520, cc, op, 6, eb⟩ : Rw) = -1) {A : On} {q : Nat} (hA : operM zs c (zs.getD p 0) (p + 1) 6 = some (A, q)) {B : On} {q' : Nat} (hB : operM zs c (zs.getD p 0) q eb = some (B, q')) :
    Calls Tryz.prog 248 #[rdV a len cap p c m, rwV (⟨65520, cc, op, 6, eb⟩ : Rw)] w fun e w' => e = .returned (inV ⟨opM c (zs.getD p 0) (⟨65520, cc, op, 6, eb⟩ : Rw), c % 16, A, B, c / 256 == 243, q'⟩) ∧ Below w.heap.size w w' := by
  have F := BF.start V tabs (⟨65520, cc, op, 6, eb⟩ : Rw)
  have hO := Lib.hid (fun W (R : Rd W N w.heap.size a len cap zs (p + 1) c (zs.getD p 0)) (t : Tabs W) => operation_any R t (⟨65520, cc, op, 6, eb⟩ : Rw) ok.2.2)
  have hz := getD_bd V.row.2.1 p
  have hN := Lib.hid (fun W (R : Rd W N w.heap.size a len cap zs p c m) => next1_yes R hp)
  have hF := fun W => field_any c 0 4 V.cb (by decide) W
  rw [show fieldS c 0 4 = c % 16 from field_low c 4 (by decide)] at hF
  have hcA := Lib.hid (fun W (R : Rd W N w.heap.size a len cap zs (p + 1) c (zs.getD p 0)) => operand_yes R 6 hA ok.1)
  have hcB := Lib.hid (fun W (R : Rd W N w.heap.size a len cap zs q c (zs.getD p 0)) => operand_yes R eb hB ok.2.1)
  clear hA hB
  generalize opM c (zs.getD p 0) (⟨65520, cc, op, 6, eb⟩ : Rw) = ov at *
  generalize zs.getD p 0 = mv at *
  clear ok V
  go_enter Tryz.func248, Tryz.ntmps248
  go_upto_region 1 with fail
  generalize ((w.alloc (.cells #[.slice a len cap, .int .i64 p, .int .u32 c, .int .u32 m] 202)).alloc (.cells (rw5 (⟨65520, cc, op, 6, eb⟩ : Rw)) 226)).alloc (.cells z16 33) = w1 at *
  have d3 := F.e.cell (i := 3) (v := .int .i64 6) rfl
  have d4 := F.e.cell (i := 4) (v := .int .i64 eb) rfl
  go_upto_region 3 with ((with_reducible refine (hN.out _ F.r).mono ?_); rintro e W2 ⟨rfl, r2, b2⟩; have F2 := F.read tabs r2 b2; have c3 := F2.r.c3; have f3 := F2.r.blk.fr 3)
  have F3 := F2.set3 tabs mv (by omega)
  clear c3 f3 d3 d4
  generalize W2.setCell ⟨w.heap.size, 3, none⟩ (.int .u32 mv) = W3 at *
  go_upto_region 4 with (first | (with_reducible refine load_rwR rfl _ rfl (w.heap.size + 1) (⟨65520, cc, op, 6, eb⟩ : Rw) rfl F3.e ?_) | ((with_reducible refine (hO.out _ F3.r F3.t).mono ?_); rintro e W4 ⟨rfl, b4⟩; have F4 := F3.below tabs b4) | ((with_reducible refine store_in_as rfl _ _ rfl (zI ov) (zI_size _) (zI_one _) rfl rfl ?_); intro W5 kI b5))
  have F5 := F4.below tabs b5
  have hK := F4.lt
  generalize W4.heap.size = K at *
  have d0 := kI.cell (i := 0) (v := .int .i64 ov) rfl
  go_upto_region 9 with fail
  clear d0
  have kI5 : Blk W5 K 33 (in16 ⟨ov, 0, onZ, onZ, false, 0⟩) := kI
  have dg := F5.e.cell (i := 0) (v := .int .u32 65520) rfl
  have c2 := F5.r.c2
  go_upto_region 11 with (first | ((with_reducible refine (hF _).mono ?_); rintro e W ⟨rfl, rfl⟩) | ((with_reducible refine store_cell rfl 3 _ _ rfl sz_int K 33 (in16 ⟨ov, 0, onZ, onZ, false, 0⟩) (in16 ⟨ov, c % 16, onZ, onZ, false, 0⟩) 1 (.int .i64 (c % 16)) rfl rfl kI5 (in16_lt _ _ (by decide)) rfl rfl rfl ?_); intro W6 kI6 b6 s6))
  have F6 := F5.but tabs b6 (by simpa using hK)
  clear c2 dg
  have d3 := F6.e.cell (i := 3) (v := .int .i64 6) rfl
  go_upto_region 12 with (first | ((with_reducible refine (hcA.out _ F6.r).mono ?_); rintro e W7 ⟨rfl, r7, b7⟩; have F7 := F6.read tabs r7 b7; have kI7 := kI6.but b7 kI6.lt (by simp; omega)) | ((with_reducible refine store_opA rfl _ _ rfl K ⟨ov, (c % 16), onZ, onZ, false, 0⟩ A rfl rfl kI7 ?_); intro W8 kI8 b8 s8))
  have F8 := F7.but tabs b8 (by simpa using hK)
  clear d3
  have d4 := F8.e.cell (i := 4) (v := .int .i64 eb) rfl
  go_upto_region 13 with (first | ((with_reducible refine (hcB.out _ F8.r).mono ?_); rintro e W9 ⟨rfl, r9, b9⟩; have F9 := F8.read tabs r9 b9; have kI9 := kI8.but b9 kI8.lt (by simp; omega)) | ((with_reducible refine store_opB rfl _ _ rfl K ⟨ov, (c % 16), A, onZ, false, 0⟩ B rfl rfl kI9 ?_); intro W10 kI10 b10 s10))
  have F10 := F9.but tabs b10 (by simpa using hK)
  clear d4
  have c2 := F10.r.c2
  go_upto_region 14 with ((with_reducible refine store_cell rfl 4 _ _ rfl sz_bool K 33 (in16 ⟨ov, (c % 16), A, B, false, 0⟩) (in16 ⟨ov, (c % 16), A, B, c / 256 == 243, 0⟩) 14 (.bool (c / 256 == 243)) rfl rfl kI10 (in16_lt _ _ (by decide)) rfl rfl rfl ?_); intro W11 kI11 b11 s11)
  have F11 := F10.but tabs b11 (by simpa using hK)
  clear c2
  have c1 := F11.r.c1
  go_upto_region 15 with ((with_reducible refine store_cell rfl 3 _ _ rfl sz_int K 33 (in16 ⟨ov, (c % 16), A, B, c / 256 == 243, 0⟩) (in16 ⟨ov, (c % 16), A, B, c / 256 == 243, q'⟩) 15 (.int .i64 q') rfl rfl kI11 (in16_lt _ _ (by decide)) rfl rfl rfl ?_); intro W12 kI12 b12 s12)
  have F12 := F11.but tabs b12 (by simpa using hK)
  clear c1
  go_wp2_with (first | (with_reducible refine load_inR rfl _ rfl K (in16 ⟨ov, (c % 16), A, B, c / 256 == 243, q'⟩) rfl kI12 (in16_size _) ?_) | ((with_reducible refine store_inR rfl _ _ rfl (w.heap.size + 2) (in16 ⟨ov, (c % 16), A, B, c / 256 == 243, q'⟩) z16 rfl rfl F12.z (in16_size _) z16_size (in16_one _) ?_); intro W13 z13 b13 s13; have F13 := F12.done tabs z13 b13))
  exact bodyPost_ret (v := inV ⟨ov, (c % 16), A, B, c / 256 == 243, q'⟩) (results_cell_row rfl _ _ (w.heap.size + 2) 33 _ (0, 0) _ rfl F13.z.h Tryz.underlying33 rfl (szIn inZ)) rfl ⟨rfl, F13.k⟩
set_option maxRecDepth 8000 in
theorem by_aokp (V : Rv w N a len cap zs p c m) (tabs : Tabs w) (g cc op eb : Int) (ok : (⟨g, cc, op, 6, eb⟩ : Rw).ok) (hp : p + 1 ≤ zs.length) (h0 : ¬ opM c (zs.getD p 0) (⟨g, cc, op, 6, eb⟩ : Rw) = 0) (h1 : ¬ opM c (zs.getD p 0) (⟨g, cc, op, 6, eb⟩ : Rw) = -1) (hg : ¬ g = 65520) {A : On} {q : Nat} (hA : operM zs c (zs.getD p 0) (p + 1) 6 = some (A, q)) {B : On} {q' : Nat} (hB : operM zs c (zs.getD p 0) q eb = some (B, q')) :
    Calls Tryz.prog 248 #[rdV a len cap p c m, rwV (⟨g, cc, op, 6, eb⟩ : Rw)] w fun e w' => e = .returned (inV ⟨opM c (zs.getD p 0) (⟨g, cc, op, 6, eb⟩ : Rw), 0, A, B, c / 256 == 243, q'⟩) ∧ Below w.heap.size w w' := by
  have F := BF.start V tabs (⟨g, cc, op, 6, eb⟩ : Rw)
  have hO := Lib.hid (fun W (R : Rd W N w.heap.size a len cap zs (p + 1) c (zs.getD p 0)) (t : Tabs W) => operation_any R t (⟨g, cc, op, 6, eb⟩ : Rw) ok.2.2)
  have hz := getD_bd V.row.2.1 p
  have hN := Lib.hid (fun W (R : Rd W N w.heap.size a len cap zs p c m) => next1_yes R hp)
  have hcA := Lib.hid (fun W (R : Rd W N w.heap.size a len cap zs (p + 1) c (zs.getD p 0)) => operand_yes R 6 hA ok.1)
  have hcB := Lib.hid (fun W (R : Rd W N w.heap.size a len cap zs q c (zs.getD p 0)) => operand_yes R eb hB ok.2.1)
  clear hA hB
  generalize opM c (zs.getD p 0) (⟨g, cc, op, 6, eb⟩ : Rw) = ov at *
  generalize zs.getD p 0 = mv at *
  clear ok V
  go_enter Tryz.func248, Tryz.ntmps248
  go_upto_region 1 with fail
  generalize ((w.alloc (.cells #[.slice a len cap, .int .i64 p, .int .u32 c, .int .u32 m] 202)).alloc (.cells (rw5 (⟨g, cc, op, 6, eb⟩ : Rw)) 226)).alloc (.cells z16 33) = w1 at *
  have d3 := F.e.cell (i := 3) (v := .int .i64 6) rfl
  have d4 := F.e.cell (i := 4) (v := .int .i64 eb) rfl
  go_upto_region 3 with ((with_reducible refine (hN.out _ F.r).mono ?_); rintro e W2 ⟨rfl, r2, b2⟩; have F2 := F.read tabs r2 b2; have c3 := F2.r.c3; have f3 := F2.r.blk.fr 3)
  have F3 := F2.set3 tabs mv (by omega)
  clear c3 f3 d3 d4
  generalize W2.setCell ⟨w.heap.size, 3, none⟩ (.int .u32 mv) = W3 at *
  go_upto_region 4 with (first | (with_reducible refine load_rwR rfl _ rfl (w.heap.size + 1) (⟨g, cc, op, 6, eb⟩ : Rw) rfl F3.e ?_) | ((with_reducible refine (hO.out _ F3.r F3.t).mono ?_); rintro e W4 ⟨rfl, b4⟩; have F4 := F3.below tabs b4) | ((with_reducible refine store_in_as rfl _ _ rfl (zI ov) (zI_size _) (zI_one _) rfl rfl ?_); intro W5 kI b5))
  have F5 := F4.below tabs b5
  have hK := F4.lt
  generalize W4.heap.size = K at *
  have d0 := kI.cell (i := 0) (v := .int .i64 ov) rfl
  go_upto_region 9 with fail
  clear d0
  have kI5 : Blk W5 K 33 (in16 ⟨ov, 0, onZ, onZ, false, 0⟩) := kI
  have dg := F5.e.cell (i := 0) (v := .int .u32 g) rfl
  go_upto_region 11 with fail
  have F6 := F5
  have kI6 := kI5
  clear dg
  have d3 := F6.e.cell (i := 3) (v := .int .i64 6) rfl
  go_upto_region 12 with (first | ((with_reducible refine (hcA.out _ F6.r).mono ?_); rintro e W7 ⟨rfl, r7, b7⟩; have F7 := F6.read tabs r7 b7; have kI7 := kI6.but b7 kI6.lt (by simp; omega)) | ((with_reducible refine store_opA rfl _ _ rfl K ⟨ov, 0, onZ, onZ, false, 0⟩ A rfl rfl kI7 ?_); intro W8 kI8 b8 s8))
  have F8 := F7.but tabs b8 (by simpa using hK)
  clear d3
  have d4 := F8.e.cell (i := 4) (v := .int .i64 eb) rfl
  go_upto_region 13 with (first | ((with_reducible refine (hcB.out _ F8.r).mono ?_); rintro e W9 ⟨rfl, r9, b9⟩; have F9 := F8.read tabs r9 b9; have kI9 := kI8.but b9 kI8.lt (by simp; omega)) | ((with_reducible refine store_opB rfl _ _ rfl K ⟨ov, 0, A, onZ, false, 0⟩ B rfl rfl kI9 ?_); intro W10 kI10 b10 s10))
  have F10 := F9.but tabs b10 (by simpa using hK)
  clear d4
  have c2 := F10.r.c2
  go_upto_region 14 with ((with_reducible refine store_cell rfl 4 _ _ rfl sz_bool K 33 (in16 ⟨ov, 0, A, B, false, 0⟩) (in16 ⟨ov, 0, A, B, c / 256 == 243, 0⟩) 14 (.bool (c / 256 == 243)) rfl rfl kI10 (in16_lt _ _ (by decide)) rfl rfl rfl ?_); intro W11 kI11 b11 s11)
  have F11 := F10.but tabs b11 (by simpa using hK)
  clear c2
  have c1 := F11.r.c1
  go_upto_region 15 with ((with_reducible refine store_cell rfl 3 _ _ rfl sz_int K 33 (in16 ⟨ov, 0, A, B, c / 256 == 243, 0⟩) (in16 ⟨ov, 0, A, B, c / 256 == 243, q'⟩) 15 (.int .i64 q') rfl rfl kI11 (in16_lt _ _ (by decide)) rfl rfl rfl ?_); intro W12 kI12 b12 s12)
  have F12 := F11.but tabs b12 (by simpa using hK)
  clear c1
  go_wp2_with (first | (with_reducible refine load_inR rfl _ rfl K (in16 ⟨ov, 0, A, B, c / 256 == 243, q'⟩) rfl kI12 (in16_size _) ?_) | ((with_reducible refine store_inR rfl _ _ rfl (w.heap.size + 2) (in16 ⟨ov, 0, A, B, c / 256 == 243, q'⟩) z16 rfl rfl F12.z (in16_size _) z16_size (in16_one _) ?_); intro W13 z13 b13 s13; have F13 := F12.done tabs z13 b13))
  exact bodyPost_ret (v := inV ⟨ov, 0, A, B, c / 256 == 243, q'⟩) (results_cell_row rfl _ _ (w.heap.size + 2) 33 _ (0, 0) _ rfl F13.z.h Tryz.underlying33 rfl (szIn inZ)) rfl ⟨rfl, F13.k⟩
set_option maxRecDepth 8000 in
theorem by_bs (V : Rv w N a len cap zs p c m) (tabs : Tabs w) (g cc op ea : Int) (ok : (⟨g, cc, op, ea, 6⟩ : Rw).ok) (h6 : ¬ ea = 6) (hp : ¬ p + 1 ≤ zs.length) :
    Calls Tryz.prog 248 #[rdV a len cap p c m, rwV (⟨g, cc, op, ea, 6⟩ : Rw)] w fun e w' => e = .panicked (errP 10) ∧ Below w.heap.size w w' := by
  have F := BF.start V tabs (⟨g, cc, op, ea, 6⟩ : Rw)
  have hz := getD_bd V.row.2.1 p
  have hN := Lib.hid (fun W (R : Rd W N w.heap.size a len cap zs p c m) => next1_no R hp)
  generalize zs.getD p 0 = mv at *
  clear ok V
  go_enter Tryz.func248, Tryz.ntmps248
  go_upto_region 1 with fail
  generalize ((w.alloc (.cells #[.slice a len cap, .int .i64 p, .int .u32 c, .int .u32 m] 202)).alloc (.cells (rw5 (⟨g, cc, op, ea, 6⟩ : Rw)) 226)).alloc (.cells z16 33) = w1 at *
  have d3 := F.e.cell (i := 3) (v := .int .i64 ea) rfl
  have d4 := F.e.cell (i := 4) (v := .int .i64 6) rfl
  go_wp2_with ((with_reducible refine (hN.out _ F.r).mono ?_); rintro e W2 ⟨rfl, b2⟩)
  exact ⟨rfl, rfl, F.k.trans (b2.mono F.k.size)⟩
set_option maxRecDepth 8000 in
theorem by_bz (V : Rv w N a len cap zs p c m) (tabs : Tabs w) (g cc op ea : Int) (ok : (⟨g, cc, op, ea, 6⟩ : Rw).ok) (h6 : ¬ ea = 6) (hp : p + 1 ≤ zs.length) (hov : opM c (zs.getD p 0) (⟨g, cc, op, ea, 6⟩ : Rw) = 0) :
    Calls Tryz.prog 248 #[rdV a len cap p c m, rwV (⟨g, cc, op, ea, 6⟩ : Rw)] w fun e w' => e = .returned (inV inZ) ∧ Below w.heap.size w w' := by
  have F := BF.start V tabs (⟨g, cc, op, ea, 6⟩ : Rw)
  have hO := Lib.hid (fun W (R : Rd W N w.heap.size a len cap zs (p + 1) c (zs.getD p 0)) (t : Tabs W) => operation_any R t (⟨g, cc, op, ea, 6⟩ : Rw) ok.2.2)
  rw [hov] at hO
  have hz := getD_bd V.row.2.1 p
  have hN := Lib.hid (fun W (R : Rd W N w.heap.size a len cap zs p c m) => next1_yes R hp)
  clear hov
  generalize zs.getD p 0 = mv at *
  clear ok V
  go_enter Tryz.func248, Tryz.ntmps248
  go_upto_region 1 with fail
  generalize ((w.alloc (.cells #[.slice a len cap, .int .i64 p, .int .u32 c, .int .u32 m] 202)).alloc (.cells (rw5 (⟨g, cc, op, ea, 6⟩ : Rw)) 226)).alloc (.cells z16 33) = w1 at *
  have d3 := F.e.cell (i := 3) (v := .int .i64 ea) rfl
  have d4 := F.e.cell (i := 4) (v := .int .i64 6) rfl
  go_upto_region 3 with ((with_reducible refine (hN.out _ F.r).mono ?_); rintro e W2 ⟨rfl, r2, b2⟩; have F2 := F.read tabs r2 b2; have c3 := F2.r.c3; have f3 := F2.r.blk.fr 3)
  have F3 := F2.set3 tabs mv (by omega)
  clear c3 f3 d3 d4
  generalize W2.setCell ⟨w.heap.size, 3, none⟩ (.int .u32 mv) = W3 at *
  go_upto_region 4 with (first | (with_reducible refine load_rwR rfl _ rfl (w.heap.size + 1) (⟨g, cc, op, ea, 6⟩ : Rw) rfl F3.e ?_) | ((with_reducible refine (hO.out _ F3.r F3.t).mono ?_); rintro e W4 ⟨rfl, b4⟩; have F4 := F3.below tabs b4) | ((with_reducible refine store_in_as rfl _ _ rfl (zI 0) (zI_size _) (zI_one _) rfl rfl ?_); intro W5 kI b5))
  have F5 := F4.below tabs b5
  have hK := F4.lt
  generalize W4.heap.size = K at *
  have d0 := kI.cell (i := 0) (v := .int .i64 0) rfl
  go_wp2_with (first | (with_reducible refine load_inR rfl _ rfl K (zI 0) rfl kI (zI_size _) ?_) | ((with_reducible refine store_inR rfl _ _ rfl (w.heap.size + 2) (zI 0) z16 rfl rfl F5.z (zI_size _) z16_size (zI_one _) ?_); intro W6 z6 b6 s6; have F6 := F5.done tabs z6 b6))
  exact bodyPost_ret (v := inV inZ) (results_cell_row rfl _ _ (w.heap.size + 2) 33 _ (0, 0) _ rfl F6.z.h Tryz.underlying33 rfl (szIn inZ)) rfl ⟨rfl, F6.k⟩
set_option maxRecDepth 8000 in
theorem by_bn (V : Rv w N a len cap zs p c m) (tabs : Tabs w) (g cc op ea : Int) (ok : (⟨g, cc, op, ea, 6⟩ : Rw).ok) (h6 : ¬ ea = 6) (hp : p + 1 ≤ zs.length) (hov : opM c (zs.getD p 0) (⟨g, cc, op, ea, 6⟩ : Rw) = -1) :
    Calls Tryz.prog 248 #[rdV a len cap p c m, rwV (⟨g, cc, op, ea, 6⟩ : Rw)] w fun e w' => e = .panicked (errP 90) ∧ Below w.heap.size w w' := by
  have F := BF.start V tabs (⟨g, cc, op, ea, 6⟩ : Rw)
  have hO := Lib.hid (fun W (R : Rd W N w.heap.size a len cap zs (p + 1) c (zs.getD p 0)) (t : Tabs W) => operation_any R t (⟨g, cc, op, ea, 6⟩ : Rw) ok.2.2)
  rw [hov] at hO
  have hz := getD_bd V.row.2.1 p
  have hN := Lib.hid (fun W (R : Rd W N w.heap.size a len cap zs p c m) => next1_yes R hp)
  clear hov
  generalize zs.getD p 0 = mv at *
  clear ok V
  go_enter Tryz.func248, Tryz.ntmps248
  go_upto_region 1 with fail
  generalize ((w.alloc (.cells #[.slice a len cap, .int .i64 p, .int .u32 c, .int .u32 m] 202)).alloc (.cells (rw5 (⟨g, cc, op, ea, 6⟩ : Rw)) 226)).alloc (.cells z16 33) = w1 at *
  have d3 := F.e.cell (i := 3) (v := .int .i64 ea) rfl
  have d4 := F.e.cell (i := 4) (v := .int .i64 6) rfl
  go_upto_region 3 with ((with_reducible refine (hN.out _ F.r).mono ?_); rintro e W2 ⟨rfl, r2, b2⟩; have F2 := F.read tabs r2 b2; have c3 := F2.r.c3; have f3 := F2.r.blk.fr 3)
  have F3 := F2.set3 tabs mv (by omega)
  clear c3 f3 d3 d4
  generalize W2.setCell ⟨w.heap.size, 3, none⟩ (.int .u32 mv) = W3 at *
  go_upto_region 4 with (first | (with_reducible refine load_rwR rfl _ rfl (w.heap.size + 1) (⟨g, cc, op, ea, 6⟩ : Rw) rfl F3.e ?_) | ((with_reducible refine (hO.out _ F3.r F3.t).mono ?_); rintro e W4 ⟨rfl, b4⟩; have F4 := F3.below tabs b4) | ((with_reducible refine store_in_as rfl _ _ rfl (zI (-1)) (zI_size _) (zI_one _) rfl rfl ?_); intro W5 kI b5))
  have F5 := F4.below tabs b5
  have hK := F4.lt
  generalize W4.heap.size = K at *
  have d0 := kI.cell (i := 0) (v := .int .i64 (-1)) rfl
  go_wp2_with fail
  exact ⟨rfl, rfl, F5.k⟩
set_option maxRecDepth 8000 in
theorem by_bAnc (V : Rv w N a len cap zs p c m) (tabs : Tabs w) ( cc op ea : Int) (ok : (⟨65520, cc, op, ea, 6⟩ : Rw).ok) (h6 : ¬ ea = 6) (hp : p + 1 ≤ zs.length) (h0 : ¬ opM c (zs.getD p 0) (⟨65520, cc, op, ea, 6⟩ : Rw) = 0) (h1 : ¬ opM c (zs.getD p 0) (⟨65520, cc, op, ea, 6⟩ : Rw) = -1) (hA : operM zs c (zs.getD p 0) (p + 1) ea = none) :
    Calls Tryz.prog 248 #[rdV a len cap p c m, rwV (⟨65520, cc, op, ea, 6⟩ : Rw)] w fun e w' => e = .panicked (errP 10) ∧ Below w.heap.size w w' := by
  have F := BF.start V tabs (⟨65520, cc, op, ea, 6⟩ : Rw)
  have hO := Lib.hid (fun W (R : Rd W N w.heap.size a len cap zs (p + 1) c (zs.getD p 0)) (t : Tabs W) => operation_any R t (⟨65520, cc, op, ea, 6⟩ : Rw) ok.2.2)
  have hz := getD_bd V.row.2.1 p
  have hN := Lib.hid (fun W (R : Rd W N w.heap.size a len cap zs p c m) => next1_yes R hp)
  have hF := fun W => field_any c 0 4 V.cb (by decide) W
  rw [show fieldS c 0 4 = c % 16 from field_low c 4 (by decide)] at hF
  have hcA := Lib.hid (fun W (R : Rd W N w.heap.size a len cap zs (p + 1) c (zs.getD p 0)) => operand_no R ea hA ok.1)
  clear hA
  generalize opM c (zs.getD p 0) (⟨65520, cc, op, ea, 6⟩ : Rw) = ov at *
  generalize zs.getD p 0 = mv at *
  clear ok V
  go_enter Tryz.func248, Tryz.ntmps248
  go_upto_region 1 with fail
  generalize ((w.alloc (.cells #[.slice a len cap, .int .i64 p, .int .u32 c, .int .u32 m] 202)).alloc (.cells (rw5 (⟨65520, cc, op, ea, 6⟩ : Rw)) 226)).alloc (.cells z16 33) = w1 at *
  have d3 := F.e.cell (i := 3) (v := .int .i64 ea) rfl
  have d4 := F.e.cell (i := 4) (v := .int .i64 6) rfl
  go_upto_region 3 with ((with_reducible refine (hN.out _ F.r).mono ?_); rintro e W2 ⟨rfl, r2, b2⟩; have F2 := F.read tabs r2 b2; have c3 := F2.r.c3; have f3 := F2.r.blk.fr 3)
  have F3 := F2.set3 tabs mv (by omega)
  clear c3 f3 d3 d4
  generalize W2.setCell ⟨w.heap.size, 3, none⟩ (.int .u32 mv) = W3 at *
  go_upto_region 4 with (first | (with_reducible refine load_rwR rfl _ rfl (w.heap.size + 1) (⟨65520, cc, op, ea, 6⟩ : Rw) rfl F3.e ?_) | ((with_reducible refine (hO.out _ F3.r F3.t).mono ?_); rintro e W4 ⟨rfl, b4⟩; have F4 := F3.below tabs b4) | ((with_reducible refine store_in_as rfl _ _ rfl (zI ov) (zI_size _) (zI_one _) rfl rfl ?_); intro W5 kI b5))
  have F5 := F4.below tabs b5
  have hK := F4.lt
  generalize W4.heap.size = K at *
  have d0 := kI.cell (i := 0) (v := .int .i64 ov) rfl
  go_upto_region 9 with fail
  clear d0
  have kI5 : Blk W5 K 33 (in16 ⟨ov, 0, onZ, onZ, false, 0⟩) := kI
  have dg := F5.e.cell (i := 0) (v := .int .u32 65520) rfl
  have c2 := F5.r.c2
  go_upto_region 11 with (first | ((with_reducible refine (hF _).mono ?_); rintro e W ⟨rfl, rfl⟩) | ((with_reducible refine store_cell rfl 3 _ _ rfl sz_int K 33 (in16 ⟨ov, 0, onZ, onZ, false, 0⟩) (in16 ⟨ov, c % 16, onZ, onZ, false, 0⟩) 1 (.int .i64 (c % 16)) rfl rfl kI5 (in16_lt _ _ (by decide)) rfl rfl rfl ?_); intro W6 kI6 b6 s6))
  have F6 := F5.but tabs b6 (by simpa using hK)
  clear c2 dg
  have d3 := F6.e.cell (i := 3) (v := .int .i64 ea) rfl
  go_wp2_with ((with_reducible refine (hcA.out _ F6.r).mono ?_); rintro e W7 ⟨rfl, b7⟩)
  exact ⟨rfl, rfl, F6.k.trans (b7.below F6.k.size (by simp))⟩
set_option maxRecDepth 8000 in
theorem by_bAnp (V : Rv w N a len cap zs p c m) (tabs : Tabs w) (g cc op ea : Int) (ok : (⟨g, cc, op, ea, 6⟩ : Rw).ok) (h6 : ¬ ea = 6) (hp : p + 1 ≤ zs.length) (h0 : ¬ opM c (zs.getD p 0) (⟨g, cc, op, ea, 6⟩ : Rw) = 0) (h1 : ¬ opM c (zs.getD p 0) (⟨g, cc, op, ea, 6⟩ : Rw) = -1) (hg : ¬ g = 65520) (hA : operM zs c (zs.getD p 0) (p + 1) ea = none) :
    Calls Tryz.prog 248 #[rdV a len cap p c m, rwV (⟨g, cc, op, ea, 6⟩ : Rw)] w fun e w' => e = .panicked (errP 10) ∧ Below w.heap.size w w' := by
  have F := BF.start V tabs (⟨g, cc, op, ea, 6⟩ : Rw)
  have hO := Lib.hid (fun W (R : Rd W N w.heap.size a len cap zs (p + 1) c (zs.getD p 0)) (t : Tabs W) => operation_any R t (⟨g, cc, op, ea, 6⟩ : Rw) ok.2.2)
  have hz := getD_bd V.row.2.1 p
  have hN := Lib.hid (fun W (R : Rd W N w.heap.size a len cap zs p c m) => next1_yes R hp)
  have hcA := Lib.hid (fun W (R : Rd W N w.heap.size a len cap zs (p + 1) c (zs.getD p 0)) => operand_no R ea hA ok.1)
  clear hA
  generalize opM c (zs.getD p 0) (⟨g, cc, op, ea, 6⟩ : Rw) = ov at *
  generalize zs.getD p 0 = mv at *
  clear ok V
  go_enter Tryz.func248, Tryz.ntmps248
  go_upto_region 1 with fail
  generalize ((w.alloc (.cells #[.slice a len cap, .int .i64 p, .int .u32 c, .int .u32 m] 202)).alloc (.cells (rw5 (⟨g, cc, op, ea, 6⟩ : Rw)) 226)).alloc (.cells z16 33) = w1 at *
  have d3 := F.e.cell (i := 3) (v := .int .i64 ea) rfl
  have d4 := F.e.cell (i := 4) (v := .int .i64 6) rfl
  go_upto_region 3 with ((with_reducible refine (hN.out _ F.r).mono ?_); rintro e W2 ⟨rfl, r2, b2⟩; have F2 := F.read tabs r2 b2; have c3 := F2.r.c3; have f3 := F2.r.blk.fr 3)
  have F3 := F2.set3 tabs mv (by omega)
  clear c3 f3 d3 d4
  generalize W2.setCell ⟨w.heap.size, 3, none⟩ (.int .u32 mv) = W3 at *
  go_upto_region 4 with (first | (with_reducible refine load_rwR rfl _ rfl (w.heap.size + 1) (⟨g, cc, op, ea, 6⟩ : Rw) rfl F3.e ?_) | ((with_reducible refine (hO.out _ F3.r F3.t).mono ?_); rintro e W4 ⟨rfl, b4⟩; have F4 := F3.below tabs b4) | ((with_reducible refine store_in_as rfl _ _ rfl (zI ov) (zI_size _) (zI_one _) rfl rfl ?_); intro W5 kI b5))
  have F5 := F4.below tabs b5
  have hK := F4.lt
  generalize W4.heap.size = K at *
  have d0 := kI.cell (i := 0) (v := .int .i64 ov) rfl
  go_upto_region 9 with fail
  clear d0
  have kI5 : Blk W5 K 33 (in16 ⟨ov, 0, onZ, onZ, false, 0⟩) := kI
  have dg := F5.e.cell (i := 0) (v := .int .u32 g) rfl
  go_upto_region 11 with fail
  have F6 := F5
  have kI6 := kI5
  clear dg
  have d3 := F6.e.cell (i := 3) (v := .int .i64 ea) rfl
  go_wp2_with ((with_reducible refine (hcA.out _ F6.r).mono ?_); rintro e W7 ⟨rfl, b7⟩)
  exact ⟨rfl, rfl, F6.k.trans (b7.below F6.k.size (by simp))⟩
set_option maxRecDepth 8000 in
theorem by_bBnc (V : Rv w N a len cap zs p c m) (tabs : Tabs w) ( cc op ea : Int) (ok : (⟨65520, cc, op, ea, 6⟩ : Rw).ok) (h6 : ¬ ea = 6) (hp : p + 1 ≤ zs.length) (h0 : ¬ opM c (zs.getD p 0) (⟨65520, cc, op, ea, 6⟩ : Rw) = 0) (h1 : ¬ opM c (zs.getD p 0) (⟨65520, cc, op, ea, 6⟩ : Rw) = -1) {A : On} {q : Nat} (hA : operM zs c (zs.getD p 0) (p + 1) ea = some (A, q)) (hB : operM zs c (zs.getD p 0) q 6 = none) :
    Calls Tryz.prog 248 #[rdV a len cap p c m, rwV (⟨65520, cc, op, ea, 6⟩ : Rw)] w fun e w' => e = .panicked (errP 10) ∧ Below w.heap.size w w' := by
  have F := BF.start V tabs (⟨65520, cc, op, ea, 6⟩ : Rw)
  have hO := Lib.hid (fun W (R : Rd W N w.heap.size a len cap zs (p + 1) c (zs.getD p 0)) (t : Tabs W) => operation_any R t (⟨65520, cc, op, ea, 6⟩ : Rw) ok.2.2)
  have hz := getD_bd V.row.2.1 p
  have hN := Lib.hid (fun W (R : Rd W N w.heap.size a len cap zs p c m) => next1_yes R hp)
  have hF := fun W => field_any c 0 4 V.cb (by decide) W
  rw [show fieldS c 0 4 = c % 16 from field_low c 4 (by decide)] at hF
  have hcA := Lib.hid (fun W (R : Rd W N w.heap.size a len cap zs (p + 1) c (zs.getD p 0)) => operand_yes R ea hA ok.1)
  have hcB := Lib.hid (fun W (R : Rd W N w.heap.size a len cap zs q c (zs.getD p 0)) => operand_no R 6 hB ok.2.1)
  clear hA hB
  generalize opM c (zs.getD p 0) (⟨65520, cc, op, ea, 6⟩ : Rw) = ov at *
  generalize zs.getD p 0 = mv at *
  clear ok V
  go_enter Tryz.func248, Tryz.ntmps248
  go_upto_region 1 with fail
  generalize ((w.alloc (.cells #[.slice a len cap, .int .i64 p, .int .u32 c, .int .u32 m] 202)).alloc (.cells (rw5 (⟨65520, cc, op, ea, 6⟩ : Rw)) 226)).alloc (.cells z16 33) = w1 at *
  have d3 := F.e.cell (i := 3) (v := .int .i64 ea) rfl
  have d4 := F.e.cell (i := 4) (v := .int .i64 6) rfl
  go_upto_region 3 with ((with_reducible refine (hN.out _ F.r).mono ?_); rintro e W2 ⟨rfl, r2, b2⟩; have F2 := F.read tabs r2 b2; have c3 := F2.r.c3; have f3 := F2.r.blk.fr 3)
  have F3 := F2.set3 tabs mv (by omega)
  clear c3 f3 d3 d4
  generalize W2.setCell ⟨w.heap.size, 3, none⟩ (.int .u32 mv) = W3 at *
  go_upto_region 4 with (first | (with_reducible refine load_rwR rfl _ rfl (w.heap.size + 1) (⟨65520, cc, op, ea, 6⟩ : Rw) rfl F3.e ?_) | ((with_reducible refine (hO.out _ F3.r F3.t).mono ?_); rintro e W4 ⟨rfl, b4⟩; have F4 := F3.below tabs b4) | ((with_reducible refine store_in_as rfl _ _ rfl (zI ov) (zI_size _) (zI_one _) rfl rfl ?_); intro W5 kI b5))
  have F5 := F4.below tabs b5
  have hK := F4.lt
  generalize W4.heap.size = K at *
  have d0 := kI.cell (i := 0) (v := .int .i64 ov) rfl
  go_upto_region 9 with fail
  clear d0
  have kI5 : Blk W5 K 33 (in16 ⟨ov, 0, onZ, onZ, false, 0⟩) := kI
  have dg := F5.e.cell (i := 0) (v := .int .u32 65520) rfl
  have c2 := F5.r.c2
  go_upto_region 11 with (first | ((with_reducible refine (hF _).mono ?_); rintro e W ⟨rfl, rfl⟩) | ((with_reducible refine store_cell rfl 3 _ _ rfl sz_int K 33 (in16 ⟨ov, 0, onZ, onZ, false, 0⟩) (in16 ⟨ov, c % 16, onZ, onZ, false, 0⟩) 1 (.int .i64 (c % 16)) rfl rfl kI5 (in16_lt _ _ (by decide)) rfl rfl rfl ?_); intro W6 kI6 b6 s6))
  have F6 := F5.but tabs b6 (by simpa using hK)
  clear c2 dg
  have d3 := F6.e.cell (i := 3) (v := .int .i64 ea) rfl
  go_upto_region 12 with (first | ((with_reducible refine (hcA.out _ F6.r).mono ?_); rintro e W7 ⟨rfl, r7, b7⟩; have F7 := F6.read tabs r7 b7; have kI7 := kI6.but b7 kI6.lt (by simp; omega)) | ((with_reducible refine store_opA rfl _ _ rfl K ⟨ov, (c % 16), onZ, onZ, false, 0⟩ A rfl rfl kI7 ?_); intro W8 kI8 b8 s8))
  have F8 := F7.but tabs b8 (by simpa using hK)
  clear d3
  have d4 := F8.e.cell (i := 4) (v := .int .i64 6) rfl
  go_wp2_with ((with_reducible refine (hcB.out _ F8.r).mono ?_); rintro e W9 ⟨rfl, b9⟩)
  exact ⟨rfl, rfl, F8.k.trans (b9.below F8.k.size (by simp))⟩
set_option maxRecDepth 8000 in
theorem by_bBnp (V : Rv w N a len cap zs p c m) (tabs : Tabs w) (g cc op ea : Int) (ok : (⟨g, cc, op, ea, 6⟩ : Rw).ok) (h6 : ¬ ea = 6) (hp : p + 1 ≤ zs.length) (h0 : ¬ opM c (zs.getD p 0) (⟨g, cc, op, ea, 6⟩ : Rw) = 0) (h1 : ¬ opM c (zs.getD p 0) (⟨g, cc, op, ea, 6⟩ : Rw) = -1) (hg : ¬ g = 65520) {A : On} {q : Nat} (hA : operM zs c (zs.getD p 0) (p + 1) ea = some (A, q)) (hB : operM zs c (zs.getD p 0) q 6 = none) :
    Calls Tryz.prog 248 #[rdV a len cap p c m, rwV (⟨g, cc, op, ea, 6⟩ : Rw)] w fun e w' => e = .panicked (errP 10) ∧ Below w.heap.size w w' := by
  have F := BF.start V tabs (⟨g, cc, op, ea, 6⟩ : Rw)
  have hO := Lib.hid (fun W (R : Rd W N w.heap.size a len cap zs (p + 1) c (zs.getD p 0)) (t : Tabs W) => operation_any R t (⟨g, cc, op, ea, 6⟩ : Rw) ok.2.2)
  have hz := getD_bd V.row.2.1 p
  have hN := Lib.hid (fun W (R : Rd W N w.heap.size a len cap zs p c m) => next1_yes R hp)
  have hcA := Lib.hid (fun W (R : Rd W N w.heap.size a len cap zs (p + 1) c (zs.getD p 0)) => operand_yes R ea hA ok.1)
  have hcB := Lib.hid (fun W (R : Rd W N w.heap.size a len cap zs q c (zs.getD p 0)) => operand_no R 6 hB ok.2.1)
  clear hA hB
  generalize opM c (zs.getD p 0) (⟨g, cc, op, ea, 6⟩ : Rw) = ov at *
  generalize zs.getD p 0 = mv at *
  clear ok V
  go_enter Tryz.func248, Tryz.ntmps248
  go_upto_region 1 with fail
  generalize ((w.alloc (.cells #[.slice a len cap, .int .i64 p, .int .u32 c, .int .u32 m] 202)).alloc (.cells (rw5 (⟨g, cc, op, ea, 6⟩ : Rw)) 226)).alloc (.cells z16 33) = w1 at *
  have d3 := F.e.cell (i := 3) (v := .int .i64 ea) rfl
  have d4 := F.e.cell (i := 4) (v := .int .i64 6) rfl
  go_upto_region 3 with ((with_reducible refine (hN.out _ F.r).mono ?_); rintro e W2 ⟨rfl, r2, b2⟩; have F2 := F.read tabs r2 b2; have c3 := F2.r.c3; have f3 := F2.r.blk.fr 3)
  have F3 := F2.set3 tabs mv (by omega)
  clear c3 f3 d3 d4
  generalize W2.setCell ⟨w.heap.size, 3, none⟩ (.int .u32 mv) = W3 at *
  go_upto_region 4 with (first | (with_reducible refine load_rwR rfl _ rfl (w.heap.size + 1) (⟨g, cc, op, ea, 6⟩ : Rw) rfl F3.e ?_) | ((with_reducible refine (hO.out _ F3.r F3.t).mono ?_); rintro e W4 ⟨rfl, b4⟩; have F4 := F3.below tabs b4) | ((with_reducible refine store_in_as rfl _ _ rfl (zI ov) (zI_size _) (zI_one _) rfl rfl ?_); intro W5 kI b5))
  have F5 := F4.below tabs b5
  have hK := F4.lt
  generalize W4.heap.size = K at *
  have d0 := kI.cell (i := 0) (v := .int .i64 ov) rfl
  go_upto_region 9 with fail
  clear d0
  have kI5 : Blk W5 K 33 (in16 ⟨ov, 0, onZ, onZ, false, 0⟩) := kI
  have dg := F5.e.cell (i := 0) (v := .int .u32 g) rfl
  go_upto_region 11 with fail
  have F6 := F5
  have kI6 := kI5
  clear dg
  have d3 := F6.e.cell (i := 3) (v := .int .i64 ea) rfl
  go_upto_region 12 with (first | ((with_reducible refine (hcA.out _ F6.r).mono ?_); rintro e W7 ⟨rfl, r7, b7⟩; have F7 := F6.read tabs r7 b7; have kI7 := kI6.but b7 kI6.lt (by simp; omega)) | ((with_reducible refine store_opA rfl _ _ rfl K ⟨ov, 0, onZ, onZ, false, 0⟩ A rfl rfl kI7 ?_); intro W8 kI8 b8 s8))
  have F8 := F7.but tabs b8 (by simpa using hK)
  clear d3
  have d4 := F8.e.cell (i := 4) (v := .int .i64 6) rfl
  go_wp2_with ((with_reducible refine (hcB.out _ F8.r).mono ?_); rintro e W9 ⟨rfl, b9⟩)
  exact ⟨rfl, rfl, F8.k.trans (b9.below F8.k.size (by simp))⟩
set_option maxRecDepth 8000 in
theorem by_bokc (V : Rv w N a len cap zs p c m) (tabs : Tabs w) ( cc op ea : Int) (ok : (⟨65520, cc, op, ea, 6⟩ : Rw).ok) (h6 : ¬ ea = 6) (hp : p + 1 ≤ zs.length) (h0 : ¬ opM c (zs.getD p 0) (⟨65520, cc, op, ea, 6⟩ : Rw) = 0) (h1 : ¬ opM c (zs.getD p 0) (⟨65520, cc, op, ea, 6⟩ : Rw) = -1) {A : On} {q : Nat} (hA : operM zs c (zs.getD p 0) (p + 1) ea = some (A, q)) {B : On} {q' : Nat} (hB : operM zs c (zs.getD p 0) q 6 = some (B, q')) :
    Calls Tryz.prog 248 #[rdV a len cap p c m, rwV (⟨65520, cc, op, ea, 6⟩ : Rw)] w fun e w' => e = .returned (inV ⟨opM c (zs.getD p 0) (⟨65520, cc, op, ea, 6⟩ : Rw), c % 16, A, B, c / 256 == 243, q'⟩) ∧ Below w.heap.size w w' := by
  have F := BF.start V tabs (⟨65520, cc, op, ea, 6⟩ : Rw)
  have hO := Lib.hid (fun W (R : Rd W N w.heap.size a len cap zs (p + 1) c (zs.getD p 0)) (t : Tabs W) => operation_any R t (⟨65520, cc, op, ea, 6⟩ : Rw) ok.2.2)
  have hz := getD_bd V.row.2.1 p
  have hN := Lib.hid (fun W (R : Rd W N w.heap.size a len cap zs p c m) => next1_yes R hp)
  have hF := fun W => field_any c 0 4 V.cb (by decide) W
  rw [show fieldS c 0 4 = c % 16 from field_low c 4 (by decide)] at hF
  have hcA := Lib.hid (fun W (R : Rd W N w.heap.size a len cap zs (p + 1) c (zs.getD p 0)) => operand_yes R ea hA ok.1)
  have hcB := Lib.hid (fun W (R : Rd W N w.heap.size a len cap zs q c (zs.getD p 0)) => operand_yes R 6 hB ok.2.1)
  clear hA hB
  generalize opM c (zs.getD p 0) (⟨65520, cc, op, ea, 6⟩ : Rw) = ov at *
  generalize zs.getD p 0 = mv at *
  clear ok V
  go_enter Tryz.func248, Tryz.ntmps248
  go_upto_region 1 with fail
  generalize ((w.alloc (.cells #[.slice a len cap, .int .i64 p, .int .u32 c, .int .u32 m] 202)).alloc (.cells (rw5 (⟨65520, cc, op, ea, 6⟩ : Rw)) 226)).alloc (.cells z16 33) = w1 at *
  have d3 := F.e.cell (i := 3) (v := .int .i64 ea) rfl
  have d4 := F.e.cell (i := 4) (v := .int .i64 6) rfl
  go_upto_region 3 with ((with_reducible refine (hN.out _ F.r).mono ?_); rintro e W2 ⟨rfl, r2, b2⟩; have F2 := F.read tabs r2 b2; have c3 := F2.r.c3; have f3 := F2.r.blk.fr 3)
  have F3 := F2.set3 tabs mv (by omega)
  clear c3 f3 d3 d4
  generalize W2.setCell ⟨w.heap.size, 3, none⟩ (.int .u32 mv) = W3 at *
  go_upto_region 4 with (first | (with_reducible refine load_rwR rfl _ rfl (w.heap.size + 1) (⟨65520, cc, op, ea, 6⟩ : Rw) rfl F3.e ?_) | ((with_reducible refine (hO.out _ F3.r F3.t).mono ?_); rintro e W4 ⟨rfl, b4⟩; have F4 := F3.below tabs b4) | ((with_reducible refine store_in_as rfl _ _ rfl (zI ov) (zI_size _) (zI_one _) rfl rfl ?_); intro W5 kI b5))
  have F5 := F4.below tabs b5
  have hK := F4.lt
  generalize W4.heap.size = K at *
  have d0 := kI.cell (i := 0) (v := .int .i64 ov) rfl
  go_upto_region 9 with fail
  clear d0
  have kI5 : Blk W5 K 33 (in16 ⟨ov, 0, onZ, onZ, false, 0⟩) := kI
  have dg := F5.e.cell (i := 0) (v := .int .u32 65520) rfl
  have c2 := F5.r.c2
  go_upto_region 11 with (first | ((with_reducible refine (hF _).mono ?_); rintro e W ⟨rfl, rfl⟩) | ((with_reducible refine store_cell rfl 3 _ _ rfl sz_int K 33 (in16 ⟨ov, 0, onZ, onZ, false, 0⟩) (in16 ⟨ov, c % 16, onZ, onZ, false, 0⟩) 1 (.int .i64 (c % 16)) rfl rfl kI5 (in16_lt _ _ (by decide)) rfl rfl rfl ?_); intro W6 kI6 b6 s6))
  have F6 := F5.but tabs b6 (by simpa using hK)
  clear c2 dg
  have d3 := F6.e.cell (i := 3) (v := .int .i64 ea) rfl
  go_upto_region 12 with (first | ((with_reducible refine (hcA.out _ F6.r).mono ?_); rintro e W7 ⟨rfl, r7, b7⟩; have F7 := F6.read tabs r7 b7; have kI7 := kI6.but b7 kI6.lt (by simp; omega)) | ((with_reducible refine store_opA rfl _ _ rfl K ⟨ov, (c % 16), onZ, onZ, false, 0⟩ A rfl rfl kI7 ?_); intro W8 kI8 b8 s8))
  have F8 := F7.but tabs b8 (by simpa using hK)
  clear d3
  have d4 := F8.e.cell (i := 4) (v := .int .i64 6) rfl
  go_upto_region 13 with (first | ((with_reducible refine (hcB.out _ F8.r).mono ?_); rintro e W9 ⟨rfl, r9, b9⟩; have F9 := F8.read tabs r9 b9; have kI9 := kI8.but b9 kI8.lt (by simp; omega)) | ((with_reducible refine store_opB rfl _ _ rfl K ⟨ov, (c % 16), A, onZ, false, 0⟩ B rfl rfl kI9 ?_); intro W10 kI10 b10 s10))
  have F10 := F9.but tabs b10 (by simpa using hK)
  clear d4
  have c2 := F10.r.c2
  go_upto_region 14 with ((with_reducible refine store_cell rfl 4 _ _ rfl sz_bool K 33 (in16 ⟨ov, (c % 16), A, B, false, 0⟩) (in16 ⟨ov, (c % 16), A, B, c / 256 == 243, 0⟩) 14 (.bool (c / 256 == 243)) rfl rfl kI10 (in16_lt _ _ (by decide)) rfl rfl rfl ?_); intro W11 kI11 b11 s11)
  have F11 := F10.but tabs b11 (by simpa using hK)
  clear c2
  have c1 := F11.r.c1
  go_upto_region 15 with ((with_reducible refine store_cell rfl 3 _ _ rfl sz_int K 33 (in16 ⟨ov, (c % 16), A, B, c / 256 == 243, 0⟩) (in16 ⟨ov, (c % 16), A, B, c / 256 == 243, q'⟩) 15 (.int .i64 q') rfl rfl kI11 (in16_lt _ _ (by decide)) rfl rfl rfl ?_); intro W12 kI12 b12 s12)
  have F12 := F11.but tabs b12 (by simpa using hK)
  clear c1
  go_wp2_with (first | (with_reducible refine load_inR rfl _ rfl K (in16 ⟨ov, (c % 16), A, B, c / 256 == 243, q'⟩) rfl kI12 (in16_size _) ?_) | ((with_reducible refine store_inR rfl _ _ rfl (w.heap.size + 2) (in16 ⟨ov, (c % 16), A, B, c / 256 == 243, q'⟩) z16 rfl rfl F12.z (in16_size _) z16_size (in16_one _) ?_); intro W13 z13 b13 s13; have F13 := F12.done tabs z13 b13))
  exact bodyPost_ret (v := inV ⟨ov, (c % 16), A, B, c / 256 == 243, q'⟩) (results_cell_row rfl _ _ (w.heap.size + 2) 33 _ (0, 0) _ rfl F13.z.h Tryz.underlying33 rfl (szIn inZ)) rfl ⟨rfl, F13.k⟩
set_option maxRecDepth 8000 in
theorem by_bokp (V : Rv w N a len cap zs p c m) (tabs : Tabs w) (g cc op ea : Int) (ok : (⟨g, cc, op, ea, 6⟩ : Rw).ok) (h6 : ¬ ea = 6) (hp : p + 1 ≤ zs.length) (h0 : ¬ opM c (zs.getD p 0) (⟨g, cc, op, ea, 6⟩ : Rw) = 0) (h1 : ¬ opM c (zs.getD p 0) (⟨g, cc, op, ea, 6⟩ : Rw) = -1) (hg : ¬ g = 65520) {A : On} {q : Nat} (hA : operM zs c (zs.getD p 0) (p + 1) ea = some (A, q)) {B : On} {q' : Nat} (hB : operM zs c (zs.getD p 0) q 6 = some (B, q')) :
    Calls Tryz.prog 248 #[rdV a len cap p c m, rwV (⟨g, cc, op, ea, 6⟩ : Rw)] w fun e w' => e = .returned (inV ⟨opM c (zs.getD p 0) (⟨g, cc, op, ea, 6⟩ : Rw), 0, A, B, c / 256 == 243, q'⟩) ∧ Below w.heap.size w w' := by
  have F := BF.start V tabs (⟨g, cc, op, ea, 6⟩ : Rw)
  have hO := Lib.hid (fun W (R : Rd W N w.heap.size a len cap zs (p + 1) c (zs.getD p 0)) (t : Tabs W) => operation_any R t (⟨g, cc, op, ea, 6⟩ : Rw) ok.2.2)
  have hz := getD_bd V.row.2.1 p
  have hN := Lib.hid (fun W (R : Rd W N w.heap.size a len cap zs p c m) => next1_yes R hp)
  have hcA := Lib.hid (fun W (R : Rd W N w.heap.size a len cap zs (p + 1) c (zs.getD p 0)) => operand_yes R ea hA ok.1)
  have hcB := Lib.hid (fun W (R : Rd W N w.heap.size a len cap zs q c (zs.getD p 0)) => operand_yes R 6 hB ok.2.1)
  clear hA hB
  generalize opM c (zs.getD p 0) (⟨g, cc, op, ea, 6⟩ : Rw) = ov at *
  generalize zs.getD p 0 = mv at *
  clear ok V
  go_enter Tryz.func248, Tryz.ntmps248
  go_upto_region 1 with fail
  generalize ((w.alloc (.cells #[.slice a len cap, .int .i64 p, .int .u32 c, .int .u32 m] 202)).alloc (.cells (rw5 (⟨g, cc, op, ea, 6⟩ : Rw)) 226)).alloc (.cells z16 33) = w1 at *
  have d3 := F.e.cell (i := 3) (v := .int .i64 ea) rfl
  have d4 := F.e.cell (i := 4) (v := .int .i64 6) rfl
  go_upto_region 3 with ((with_reducible refine (hN.out _ F.r).mono ?_); rintro e W2 ⟨rfl, r2, b2⟩; have F2 := F.read tabs r2 b2; have c3 := F2.r.c3; have f3 := F2.r.blk.fr 3)
  have F3 := F2.set3 tabs mv (by omega)
  clear c3 f3 d3 d4
  generalize W2.setCell ⟨w.heap.size, 3, none⟩ (.int .u32 mv) = W3 at *
  go_upto_region 4 with (first | (with_reducible refine load_rwR rfl _ rfl (w.heap.size + 1) (⟨g, cc, op, ea, 6⟩ : Rw) rfl F3.e ?_) | ((with_reducible refine (hO.out _ F3.r F3.t).mono ?_); rintro e W4 ⟨rfl, b4⟩; have F4 := F3.below tabs b4) | ((with_reducible refine store_in_as rfl _ _ rfl (zI ov) (zI_size _) (zI_one _) rfl rfl ?_); intro W5 kI b5))
  have F5 := F4.below tabs b5
  have hK := F4.lt
  generalize W4.heap.size = K at *
  have d0 := kI.cell (i := 0) (v := .int .i64 ov) rfl
  go_upto_region 9 with fail
  clear d0
  have kI5 : Blk W5 K 33 (in16 ⟨ov, 0, onZ, onZ, false, 0⟩) := kI
  have dg := F5.e.cell (i := 0) (v := .int .u32 g) rfl
  go_upto_region 11 with fail
  have F6 := F5
  have kI6 := kI5
  clear dg
  have d3 := F6.e.cell (i := 3) (v := .int .i64 ea) rfl
  go_upto_region 12 with (first | ((with_reducible refine (hcA.out _ F6.r).mono ?_); rintro e W7 ⟨rfl, r7, b7⟩; have F7 := F6.read tabs r7 b7; have kI7 := kI6.but b7 kI6.lt (by simp; omega)) | ((with_reducible refine store_opA rfl _ _ rfl K ⟨ov, 0, onZ, onZ, false, 0⟩ A rfl rfl kI7 ?_); intro W8 kI8 b8 s8))
  have F8 := F7.but tabs b8 (by simpa using hK)
  clear d3
  have d4 := F8.e.cell (i := 4) (v := .int .i64 6) rfl
  go_upto_region 13 with (first | ((with_reducible refine (hcB.out _ F8.r).mono ?_); rintro e W9 ⟨rfl, r9, b9⟩; have F9 := F8.read tabs r9 b9; have kI9 := kI8.but b9 kI8.lt (by simp; omega)) | ((with_reducible refine store_opB rfl _ _ rfl K ⟨ov, 0, A, onZ, false, 0⟩ B rfl rfl kI9 ?_); intro W10 kI10 b10 s10))
  have F10 := F9.but tabs b10 (by simpa using hK)
  clear d4
  have c2 := F10.r.c2
  go_upto_region 14 with ((with_reducible refine store_cell rfl 4 _ _ rfl sz_bool K 33 (in16 ⟨ov, 0, A, B, false, 0⟩) (in16 ⟨ov, 0, A, B, c / 256 == 243, 0⟩) 14 (.bool (c / 256 == 243)) rfl rfl kI10 (in16_lt _ _ (by decide)) rfl rfl rfl ?_); intro W11 kI11 b11 s11)
  have F11 := F10.but tabs b11 (by simpa using hK)
  clear c2
  have c1 := F11.r.c1
  go_upto_region 15 with ((with_reducible refine store_cell rfl 3 _ _ rfl sz_int K 33 (in16 ⟨ov, 0, A, B, c / 256 == 243, 0⟩) (in16 ⟨ov, 0, A, B, c / 256 == 243, q'⟩) 15 (.int .i64 q') rfl rfl kI11 (in16_lt _ _ (by decide)) rfl rfl rfl ?_); intro W12 kI12 b12 s12)
  have F12 := F11.but tabs b12 (by simpa using hK)
  clear c1
  go_wp2_with (first | (with_reducible refine load_inR rfl _ rfl K (in16 ⟨ov, 0, A, B, c / 256 == 243, q'⟩) rfl kI12 (in16_size _) ?_) | ((with_reducible refine store_inR rfl _ _ rfl (w.heap.size + 2) (in16 ⟨ov, 0, A, B, c / 256 == 243, q'⟩) z16 rfl rfl F12.z (in16_size _) z16_size (in16_one _) ?_); intro W13 z13 b13 s13; have F13 := F12.done tabs z13 b13))
  exact bodyPost_ret (v := inV ⟨ov, 0, A, B, c / 256 == 243, q'⟩) (results_cell_row rfl _ _ (w.heap.size + 2) 33 _ (0, 0) _ rfl F13.z.h Tryz.underlying33 rfl (szIn inZ)) rfl ⟨rfl, F13.k⟩
set_option maxRecDepth 8000 in
theorem by_0z (V : Rv w N a len cap zs p c m) (tabs : Tabs w) (g cc op ea eb : Int) (ok : (⟨g, cc, op, ea, eb⟩ : Rw).ok) (h6 : ¬ ea = 6) (h7 : ¬ eb = 6) (hov : opM c m (⟨g, cc, op, ea, eb⟩ : Rw) = 0) :
    Calls Tryz.prog 248 #[rdV a len cap p c m, rwV (⟨g, cc, op, ea, eb⟩ : Rw)] w fun e w' => e = .returned (inV inZ) ∧ Below w.heap.size w w' := by
  have F := BF.start V tabs (⟨g, cc, op, ea, eb⟩ : Rw)
  have hO := Lib.hid (fun W (R : Rd W N w.heap.size a len cap zs p c m) (t : Tabs W) => operation_any R t (⟨g, cc, op, ea, eb⟩ : Rw) ok.2.2)
  rw [hov] at hO
  clear hov
  clear ok V
  have e6 : (ea == 6) = false := by simpa using h6
  have e7 : (eb == 6) = false := by simpa using h7
  go_enter Tryz.func248, Tryz.ntmps248
  go_upto_region 1 with fail
  generalize ((w.alloc (.cells #[.slice a len cap, .int .i64 p, .int .u32 c, .int .u32 m] 202)).alloc (.cells (rw5 (⟨g, cc, op, ea, eb⟩ : Rw)) 226)).alloc (.cells z16 33) = w1 at *
  have d3 := F.e.cell (i := 3) (v := .int .i64 ea) rfl
  have d4 := F.e.cell (i := 4) (v := .int .i64 eb) rfl
  go_upto_region 3 with fail
  have F3 := F
  clear d3 d4
  go_upto_region 4 with (first | (with_reducible refine load_rwR rfl _ rfl (w.heap.size + 1) (⟨g, cc, op, ea, eb⟩ : Rw) rfl F3.e ?_) | ((with_reducible refine (hO.out _ F3.r F3.t).mono ?_); rintro e W4 ⟨rfl, b4⟩; have F4 := F3.below tabs b4) | ((with_reducible refine store_in_as rfl _ _ rfl (zI 0) (zI_size _) (zI_one _) rfl rfl ?_); intro W5 kI b5))
  have F5 := F4.below tabs b5
  have hK := F4.lt
  generalize W4.heap.size = K at *
  have d0 := kI.cell (i := 0) (v := .int .i64 0) rfl
  go_wp2_with (first | (with_reducible refine load_inR rfl _ rfl K (zI 0) rfl kI (zI_size _) ?_) | ((with_reducible refine store_inR rfl _ _ rfl (w.heap.size + 2) (zI 0) z16 rfl rfl F5.z (zI_size _) z16_size (zI_one _) ?_); intro W6 z6 b6 s6; have F6 := F5.done tabs z6 b6))
  exact bodyPost_ret (v := inV inZ) (results_cell_row rfl _ _ (w.heap.size + 2) 33 _ (0, 0) _ rfl F6.z.h Tryz.underlying33 rfl (szIn inZ)) rfl ⟨rfl, F6.k⟩
set_option maxRecDepth 8000 in
theorem by_0n (V : Rv w N a len cap zs p c m) (tabs : Tabs w) (g cc op ea eb : Int) (ok : (⟨g, cc, op, ea, eb⟩ : Rw).ok) (h6 : ¬ ea = 6) (h7 : ¬ eb = 6) (hov : opM c m (⟨g, cc, op, ea, eb⟩ : Rw) = -1) :
    Calls Tryz.prog 248 #[rdV a len cap p c m, rwV (⟨g, cc, op, ea, eb⟩ : Rw)] w fun e w' => e = .panicked (errP 90) ∧ Below w.heap.size w w' := by
  have F := BF.start V tabs (⟨g, cc, op, ea, eb⟩ : Rw)
  have hO := Lib.hid (fun W (R : Rd W N w.heap.size a len cap zs p c m) (t : Tabs W) => operation_any R t (⟨g, cc, op, ea, eb⟩ : Rw) ok.2.2)
  rw [hov] at hO
  clear hov
  clear ok V
  have e6 : (ea == 6) = false := by simpa using h6
  have e7 : (eb == 6) = false := by simpa using h7
  go_enter Tryz.func248, Tryz.ntmps248
  go_upto_region 1 with fail
  generalize ((w.alloc (.cells #[.slice a len cap, .int .i64 p, .int .u32 c, .int .u32 m] 202)).alloc (.cells (rw5 (⟨g, cc, op, ea, eb⟩ : Rw)) 226)).alloc (.cells z16 33) = w1 at *
  have d3 := F.e.cell (i := 3) (v := .int .i64 ea) rfl
  have d4 := F.e.cell (i := 4) (v := .int .i64 eb) rfl
  go_upto_region 3 with fail
  have F3 := F
  clear d3 d4
  go_upto_region 4 with (first | (with_reducible refine load_rwR rfl _ rfl (w.heap.size + 1) (⟨g, cc, op, ea, eb⟩ : Rw) rfl F3.e ?_) | ((with_reducible refine (hO.out _ F3.r F3.t).mono ?_); rintro e W4 ⟨rfl, b4⟩; have F4 := F3.below tabs b4) | ((with_reducible refine store_in_as rfl _ _ rfl (zI (-1)) (zI_size _) (zI_one _) rfl rfl ?_); intro W5 kI b5))
  have F5 := F4.below tabs b5
  have hK := F4.lt
  generalize W4.heap.size = K at *
  have d0 := kI.cell (i := 0) (v := .int .i64 (-1)) rfl
  go_wp2_with fail
  exact ⟨rfl, rfl, F5.k⟩
set_option maxRecDepth 8000 in
theorem by_0Anc (V : Rv w N a len cap zs p c m) (tabs : Tabs w) ( cc op ea eb : Int) (ok : (⟨65520, cc, op, ea, eb⟩ : Rw).ok) (h6 : ¬ ea = 6) (h7 : ¬ eb = 6) (h0 : ¬ opM c m (⟨65520, cc, op, ea, eb⟩ : Rw) = 0) (h1 : ¬ opM c m (⟨65520, cc, op, ea, eb⟩ : Rw) = -1) (hA : operM zs c m p ea = none) :
    Calls Tryz.prog 248 #[rdV a len cap p c m, rwV (⟨65520, cc, op, ea, eb⟩ : Rw)] w fun e w' => e = .panicked (errP 10) ∧ Below w.heap.size w w' := by
  have F := BF.start V tabs (⟨65520, cc, op, ea, eb⟩ : Rw)
  have hO := Lib.hid (fun W (R : Rd W N w.heap.size a len cap zs p c m) (t : Tabs W) => operation_any R t (⟨65520, cc, op, ea, eb⟩ : Rw) ok.2.2)
  have hF := fun W => field_any c 0 4 V.cb (by decide) W
  rw [show fieldS c 0 4 = c % 16 from field_low c 4 (by decide)] at hF
  have hcA := Lib.hid (fun W (R : Rd W N w.heap.size a len cap zs p c m) => operand_no R ea hA ok.1)
  clear hA
  generalize opM c m (⟨65520, cc, op, ea, eb⟩ : Rw) = ov at *
  clear ok V
  have e6 : (ea == 6) = false := by simpa using h6
  have e7 : (eb == 6) = false := by simpa using h7
  go_enter Tryz.func248, Tryz.ntmps248
  go_upto_region 1 with fail
  generalize ((w.alloc (.cells #[.slice a len cap, .int .i64 p, .int .u32 c, .int .u32 m] 202)).alloc (.cells (rw5 (⟨65520, cc, op, ea, eb⟩ : Rw)) 226)).alloc (.cells z16 33) = w1 at *
  have d3 := F.e.cell (i := 3) (v := .int .i64 ea) rfl
  have d4 := F.e.cell (i := 4) (v := .int .i64 eb) rfl
  go_upto_region 3 with fail
  have F3 := F
  clear d3 d4
  go_upto_region 4 with (first | (with_reducible refine load_rwR rfl _ rfl (w.heap.size + 1) (⟨65520, cc, op, ea, eb⟩ : Rw) rfl F3.e ?_) | ((with_reducible refine (hO.out _ F3.r F3.t).mono ?_); rintro e W4 ⟨rfl, b4⟩; have F4 := F3.below tabs b4) | ((with_reducible refine store_in_as rfl _ _ rfl (zI ov) (zI_size _) (zI_one _) rfl rfl ?_); intro W5 kI b5))
  have F5 := F4.below tabs b5
  have hK := F4.lt
  generalize W4.heap.size = K at *
  have d0 := kI.cell (i := 0) (v := .int .i64 ov) rfl
  go_upto_region 9 with fail
  clear d0
  have kI5 : Blk W5 K 33 (in16 ⟨ov, 0, onZ, onZ, false, 0⟩) := kI
  have dg := F5.e.cell (i := 0) (v := .int .u32 65520) rfl
  have c2 := F5.r.c2
  go_upto_region 11 with (first | ((with_reducible refine (hF _).mono ?_); rintro e W ⟨rfl, rfl⟩) | ((with_reducible refine store_cell rfl 3 _ _ rfl sz_int K 33 (in16 ⟨ov, 0, onZ, onZ, false, 0⟩) (in16 ⟨ov, c % 16, onZ, onZ, false, 0⟩) 1 (.int .i64 (c % 16)) rfl rfl kI5 (in16_lt _ _ (by decide)) rfl rfl rfl ?_); intro W6 kI6 b6 s6))
  have F6 := F5.but tabs b6 (by simpa using hK)
  clear c2 dg
  have d3 := F6.e.cell (i := 3) (v := .int .i64 ea) rfl
  go_wp2_with ((with_reducible refine (hcA.out _ F6.r).mono ?_); rintro e W7 ⟨rfl, b7⟩)
  exact ⟨rfl, rfl, F6.k.trans (b7.below F6.k.size (by simp))⟩
set_option maxRecDepth 8000 in
theorem by_0Anp (V : Rv w N a len cap zs p c m) (tabs : Tabs w) (g cc op ea eb : Int) (ok : (⟨g, cc, op, ea, eb⟩ : Rw).ok) (h6 : ¬ ea = 6) (h7 : ¬ eb = 6) (h0 : ¬ opM c m (⟨g, cc, op, ea, eb⟩ : Rw) = 0) (h1 : ¬ opM c m (⟨g, cc, op, ea, eb⟩ : Rw) = -1) (hg : ¬ g = 65520) (hA : operM zs c m p ea = none) :
    Calls Tryz.prog 248 #[rdV a len cap p c m, rwV (⟨g, cc, op, ea, eb⟩ : Rw)] w fun e w' => e = .panicked (errP 10) ∧ Below w.heap.size w w' := by
  have F := BF.start V tabs (⟨g, cc, op, ea, eb⟩ : Rw)
  have hO := Lib.hid (fun W (R : Rd W N w.heap.size a len cap zs p c m) (t : Tabs W) => operation_any R t (⟨g, cc, op, ea, eb⟩ : Rw) ok.2.2)
  have hcA := Lib.hid (fun W (R : Rd W N w.heap.size a len cap zs p c m) => operand_no R ea hA ok.1)
  clear hA
  generalize opM c m (⟨g, cc, op, ea, eb⟩ : Rw) = ov at *
  clear ok V
  have e6 : (ea == 6) = false := by simpa using h6
  have e7 : (eb == 6) = false := by simpa using h7
  go_enter Tryz.func248, Tryz.ntmps248
  go_upto_region 1 with fail
  generalize ((w.alloc (.cells #[.slice a len cap, .int .i64 p, .int .u32 c, .int .u32 m] 202)).alloc (.cells (rw5 (⟨g, cc, op, ea, eb⟩ : Rw)) 226)).alloc (.cells z16 33) = w1 at *
  have d3 := F.e.cell (i := 3) (v := .int .i64 ea) rfl
  have d4 := F.e.cell (i := 4) (v := .int .i64 eb) rfl
  go_upto_region 3 with fail
  have F3 := F
  clear d3 d4
  go_upto_region 4 with (first | (with_reducible refine load_rwR rfl _ rfl (w.heap.size + 1) (⟨g, cc, op, ea, eb⟩ : Rw) rfl F3.e ?_) | ((with_reducible refine (hO.out _ F3.r F3.t).mono ?_); rintro e W4 ⟨rfl, b4⟩; have F4 := F3.below tabs b4) | ((with_reducible refine store_in_as rfl _ _ rfl (zI ov) (zI_size _) (zI_one _) rfl rfl ?_); intro W5 kI b5))
  have F5 := F4.below tabs b5
  have hK := F4.lt
  generalize W4.heap.size = K at *
  have d0 := kI.cell (i := 0) (v := .int .i64 ov) rfl
  go_upto_region 9 with fail
  clear d0
  have kI5 : Blk W5 K 33 (in16 ⟨ov, 0, onZ, onZ, false, 0⟩) := kI
  have dg := F5.e.cell (i := 0) (v := .int .u32 g) rfl
  go_upto_region 11 with fail
  have F6 := F5
  have kI6 := kI5
  clear dg
  have d3 := F6.e.cell (i := 3) (v := .int .i64 ea) rfl
  go_wp2_with ((with_reducible refine (hcA.out _ F6.r).mono ?_); rintro e W7 ⟨rfl, b7⟩)
  exact ⟨rfl, rfl, F6.k.trans (b7.below F6.k.size (by simp))⟩
set_option maxRecDepth 8000 in
theorem by_0Bnc (V : Rv w N a len cap zs p c m) (tabs : Tabs w) ( cc op ea eb : Int) (ok : (⟨65520, cc, op, ea, eb⟩ : Rw).ok) (h6 : ¬ ea = 6) (h7 : ¬ eb = 6) (h0 : ¬ opM c m (⟨65520, cc, op, ea, eb⟩ : Rw) = 0) (h1 : ¬ opM c m (⟨65520, cc, op, ea, eb⟩ : Rw) = -1) {A : On} {q : Nat} (hA : operM zs c m p ea = some (A, q)) (hB : operM zs c m q eb = none) :
    Calls Tryz.prog 248 #[rdV a len cap p c m, rwV (⟨65520, cc, op, ea, eb⟩ : Rw)] w fun e w' => e = .panicked (errP 10) ∧ Below w.heap.size w w' := by
  have F := BF.start V tabs (⟨65520, cc, op, ea, eb⟩ : Rw)
  have hO := Lib.hid (fun W (R : Rd W N w.heap.size a len cap zs p c m) (t : Tabs W) => operation_any R t (⟨65520, cc, op, ea, eb⟩ : Rw) ok.2.2)
  have hF := fun W => field_any c 0 4 V.cb (by decide) W
  rw [show fieldS c 0 4 = c % 16 from field_low c 4 (by decide)] at hF
  have hcA := Lib.hid (fun W (R : Rd W N w.heap.size a len cap zs p c m) => operand_yes R ea hA ok.1)
  have hcB := Lib.hid (fun W (R : Rd W N w.heap.size a len cap zs q c m) => operand_no R eb hB ok.2.1)
  clear hA hB
  generalize opM c m (⟨65520, cc, op, ea, eb⟩ : Rw) = ov at *
  clear ok V
  have e6 : (ea == 6) = false := by simpa using h6
  have e7 : (eb == 6) = false := by simpa using h7
  go_enter Tryz.func248, Tryz.ntmps248
  go_upto_region 1 with fail
  generalize ((w.alloc (.cells #[.slice a len cap, .int .i64 p, .int .u32 c, .int .u32 m] 202)).alloc (.cells (rw5 (⟨65520, cc, op, ea, eb⟩ : Rw)) 226)).alloc (.cells z16 33) = w1 at *
  have d3 := F.e.cell (i := 3) (v := .int .i64 ea) rfl
  have d4 := F.e.cell (i := 4) (v := .int .i64 eb) rfl
  go_upto_region 3 with fail
  have F3 := F
  clear d3 d4
  go_upto_region 4 with (first | (with_reducible refine load_rwR rfl _ rfl (w.heap.size + 1) (⟨65520, cc, op, ea, eb⟩ : Rw) rfl F3.e ?_) | ((with_reducible refine (hO.out _ F3.r F3.t).mono ?_); rintro e W4 ⟨rfl, b4⟩; have F4 := F3.below tabs b4) | ((with_reducible refine store_in_as rfl _ _ rfl (zI ov) (zI_size _) (zI_one _) rfl rfl ?_); intro W5 kI b5))
  have F5 := F4.below tabs b5
  have hK := F4.lt
  generalize W4.heap.size = K at *
  have d0 := kI.cell (i := 0) (v := .int .i64 ov) rfl
  go_upto_region 9 with fail
  clear d0
  have kI5 : Blk W5 K 33 (in16 ⟨ov, 0, onZ, onZ, false, 0⟩) := kI
  have dg := F5.e.cell (i := 0) (v := .int .u32 65520) rfl
  have c2 := F5.r.c2
  go_upto_region 11 with (first | ((with_reducible refine (hF _).mono ?_); rintro e W ⟨rfl, rfl⟩) | ((with_reducible refine store_cell rfl 3 _ _ rfl sz_int K 33 (in16 ⟨ov, 0, onZ, onZ, false, 0⟩) (in16 ⟨ov, c % 16, onZ, onZ, false, 0⟩) 1 (.int .i64 (c % 16)) rfl rfl kI5 (in16_lt _ _ (by decide)) rfl rfl rfl ?_); intro W6 kI6 b6 s6))
  have F6 := F5.but tabs b6 (by simpa using hK)
  clear c2 dg
  have d3 := F6.e.cell (i := 3) (v := .int .i64 ea) rfl
  go_upto_region 12 with (first | ((with_reducible refine (hcA.out _ F6.r).mono ?_); rintro e W7 ⟨rfl, r7, b7⟩; have F7 := F6.read tabs r7 b7; have kI7 := kI6.but b7 kI6.lt (by simp; omega)) | ((with_reducible refine store_opA rfl _ _ rfl K ⟨ov, (c % 16), onZ, onZ, false, 0⟩ A rfl rfl kI7 ?_); intro W8 kI8 b8 s8))
  have F8 := F7.but tabs b8 (by simpa using hK)
  clear d3
  have d4 := F8.e.cell (i := 4) (v := .int .i64 eb) rfl
  go_wp2_with ((with_reducible refine (hcB.out _ F8.r).mono ?_); rintro e W9 ⟨rfl, b9⟩)
  exact ⟨rfl, rfl, F8.k.trans (b9.below F8.k.size (by simp))⟩
set_option maxRecDepth 8000 in
theorem by_0Bnp (V : Rv w N a len cap zs p c m) (tabs : Tabs w) (g cc op ea eb : Int) (ok : (⟨g, cc, op, ea, eb⟩ : Rw).ok) (h6 : ¬ ea = 6) (h7 : ¬ eb = 6) (h0 : ¬ opM c m (⟨g, cc, op, ea, eb⟩ : Rw) = 0) (h1 : ¬ opM c m (⟨g, cc, op, ea, eb⟩ : Rw) = -1) (hg : ¬ g = 65520) {A : On} {q : Nat} (hA : operM zs c m p ea = some (A, q)) (hB : operM zs c m q eb = none) :
    Calls Tryz.prog 248 #[rdV a len cap p c m, rwV (⟨g, cc, op, ea, eb⟩ : Rw)] w fun e w' => e = .panicked (errP 10) ∧ Below w.heap.size w w' := by
  have F := BF.start V tabs (⟨g, cc, op, ea, eb⟩ : Rw)
  have hO := Lib.hid (fun W (R : Rd W N w.heap.size a len cap zs p c m) (t : Tabs W) => operation_any R t (⟨g, cc, op, ea, eb⟩ : Rw) ok.2.2)
  have hcA := Lib.hid (fun W (R : Rd W N w.heap.size a len cap zs p c m) => operand_yes R ea hA ok.1)
  have hcB := Lib.hid (fun W (R : Rd W N w.heap.size a len cap zs q c m) => operand_no R eb hB ok.2.1)
  clear hA hB
  generalize opM c m (⟨g, cc, op, ea, eb⟩ : Rw) = ov at *
  clear ok V
  have e6 : (ea == 6) = false := by simpa using h6
  have e7 : (eb == 6) = false := by simpa using h7
  go_enter Tryz.func248, Tryz.ntmps248
  go_upto_region 1 with fail
  generalize ((w.alloc (.cells #[.slice a len cap, .int .i64 p, .int .u32 c, .int .u32 m] 202)).alloc (.cells (rw5 (⟨g, cc, op, ea, eb⟩ : Rw)) 226)).alloc (.cells z16 33) = w1 at *
  have d3 := F.e.cell (i := 3) (v := .int .i64 ea) rfl
  have d4 := F.e.cell (i := 4) (v := .int .i64 eb) rfl
  go_upto_region 3 with fail
  have F3 := F
  clear d3 d4
  go_upto_region 4 with (first | (with_reducible refine load_rwR rfl _ rfl (w.heap.size + 1) (⟨g, cc, op, ea, eb⟩ : Rw) rfl F3.e ?_) | ((with_reducible refine (hO.out _ F3.r F3.t).mono ?_); rintro e W4 ⟨rfl, b4⟩; have F4 := F3.below tabs b4) | ((with_reducible refine store_in_as rfl _ _ rfl (zI ov) (zI_size _) (zI_one _) rfl rfl ?_); intro W5 kI b5))
  have F5 := F4.below tabs b5
  have hK := F4.lt
  generalize W4.heap.size = K at *
  have d0 := kI.cell (i := 0) (v := .int .i64 ov) rfl
  go_upto_region 9 with fail
  clear d0
  have kI5 : Blk W5 K 33 (in16 ⟨ov, 0, onZ, onZ, false, 0⟩) := kI
  have dg := F5.e.cell (i := 0) (v := .int .u32 g) rfl
  go_upto_region 11 with fail
  have F6 := F5
  have kI6 := kI5
  clear dg
  have d3 := F6.e.cell (i := 3) (v := .int .i64 ea) rfl
  go_upto_region 12 with (first | ((with_reducible refine (hcA.out _ F6.r).mono ?_); rintro e W7 ⟨rfl, r7, b7⟩; have F7 := F6.read tabs r7 b7; have kI7 := kI6.but b7 kI6.lt (by simp; omega)) | ((with_reducible refine store_opA rfl _ _ rfl K ⟨ov, 0, onZ, onZ, false, 0⟩ A rfl rfl kI7 ?_); intro W8 kI8 b8 s8))
  have F8 := F7.but tabs b8 (by simpa using hK)
  clear d3
  have d4 := F8.e.cell (i := 4) (v := .int .i64 eb) rfl
  go_wp2_with ((with_reducible refine (hcB.out _ F8.r).mono ?_); rintro e W9 ⟨rfl, b9⟩)
  exact ⟨rfl, rfl, F8.k.trans (b9.below F8.k.size (by simp))⟩
set_option maxRecDepth 8000 in
theorem by_0okc (V : Rv w N a len cap zs p c m) (tabs : Tabs w) ( cc op ea eb : Int) (ok : (⟨65520, cc, op, ea, eb⟩ : Rw).ok) (h6 : ¬ ea = 6) (h7 : ¬ eb = 6) (h0 : ¬ opM c m (⟨65520, cc, op, ea, eb⟩ : Rw) = 0) (h1 : ¬ opM c m (⟨65520, cc, op, ea, eb⟩ : Rw) = -1) {A : On} {q : Nat} (hA : operM zs c m p ea = some (A, q)) {B : On} {q' : Nat} (hB : operM zs c m q eb = some (B, q')) :
    Calls Tryz.prog 248 #[rdV a len cap p c m, rwV (⟨65520, cc, op, ea, eb⟩ : Rw)] w fun e w' => e = .returned (inV ⟨opM c m (⟨65520, cc, op, ea, eb⟩ : Rw), c % 16, A, B, c / 256 == 243, q'⟩) ∧ Below w.heap.size w w' := by
  have F := BF.start V tabs (⟨65520, cc, op, ea, eb⟩ : Rw)
  have hO := Lib.hid (fun W (R : Rd W N w.heap.size a len cap zs p c m) (t : Tabs W) => operation_any R t (⟨65520, cc, op, ea, eb⟩ : Rw) ok.2.2)
  have hF := fun W => field_any c 0 4 V.cb (by decide) W
  rw [show fieldS c 0 4 = c % 16 from field_low c 4 (by decide)] at hF
  have hcA := Lib.hid (fun W (R : Rd W N w.heap.size a len cap zs p c m) => operand_yes R ea hA ok.1)
  have hcB := Lib.hid (fun W (R : Rd W N w.heap.size a len cap zs q c m) => operand_yes R eb hB ok.2.1)
  clear hA hB
  generalize opM c m (⟨65520, cc, op, ea, eb⟩ : Rw) = ov at *
  clear ok V
  have e6 : (ea == 6) = false := by simpa using h6
  have e7 : (eb == 6) = false := by simpa using h7
  go_enter Tryz.func248, Tryz.ntmps248
  go_upto_region 1 with fail
  generalize ((w.alloc (.cells #[.slice a len cap, .int .i64 p, .int .u32 c, .int .u32 m] 202)).alloc (.cells (rw5 (⟨65520, cc, op, ea, eb⟩ : Rw)) 226)).alloc (.cells z16 33) = w1 at *
  have d3 := F.e.cell (i := 3) (v := .int .i64 ea) rfl
  have d4 := F.e.cell (i := 4) (v := .int .i64 eb) rfl
  go_upto_region 3 with fail
  have F3 := F
  clear d3 d4
  go_upto_region 4 with (first | (with_reducible refine load_rwR rfl _ rfl (w.heap.size + 1) (⟨65520, cc, op, ea, eb⟩ : Rw) rfl F3.e ?_) | ((with_reducible refine (hO.out _ F3.r F3.t).mono ?_); rintro e W4 ⟨rfl, b4⟩; have F4 := F3.below tabs b4) | ((with_reducible refine store_in_as rfl _ _ rfl (zI ov) (zI_size _) (zI_one _) rfl rfl ?_); intro W5 kI b5))
  have F5 := F4.below tabs b5
  have hK := F4.lt
  generalize W4.heap.size = K at *
  have d0 := kI.cell (i := 0) (v := .int .i64 ov) rfl
  go_upto_region 9 with fail
  clear d0
  have kI5 : Blk W5 K 33 (in16 ⟨ov, 0, onZ, onZ, false, 0⟩) := kI
  have dg := F5.e.cell (i := 0) (v := .int .u32 65520) rfl
  have c2 := F5.r.c2
  go_upto_region 11 with (first | ((with_reducible refine (hF _).mono ?_); rintro e W ⟨rfl, rfl⟩) | ((with_reducible refine store_cell rfl 3 _ _ rfl sz_int K 33 (in16 ⟨ov, 0, onZ, onZ, false, 0⟩) (in16 ⟨ov, c % 16, onZ, onZ, false, 0⟩) 1 (.int .i64 (c % 16)) rfl rfl kI5 (in16_lt _ _ (by decide)) rfl rfl rfl ?_); intro W6 kI6 b6 s6))
  have F6 := F5.but tabs b6 (by simpa using hK)
  clear c2 dg
  have d3 := F6.e.cell (i := 3) (v := .int .i64 ea) rfl
  go_upto_region 12 with (first | ((with_reducible refine (hcA.out _ F6.r).mono ?_); rintro e W7 ⟨rfl, r7, b7⟩; have F7 := F6.read tabs r7 b7; have kI7 := kI6.but b7 kI6.lt (by simp; omega)) | ((with_reducible refine store_opA rfl _ _ rfl K ⟨ov, (c % 16), onZ, onZ, false, 0⟩ A rfl rfl kI7 ?_); intro W8 kI8 b8 s8))
  have F8 := F7.but tabs b8 (by simpa using hK)
  clear d3
  have d4 := F8.e.cell (i := 4) (v := .int .i64 eb) rfl
  go_upto_region 13 with (first | ((with_reducible refine (hcB.out _ F8.r).mono ?_); rintro e W9 ⟨rfl, r9, b9⟩; have F9 := F8.read tabs r9 b9; have kI9 := kI8.but b9 kI8.lt (by simp; omega)) | ((with_reducible refine store_opB rfl _ _ rfl K ⟨ov, (c % 16), A, onZ, false, 0⟩ B rfl rfl kI9 ?_); intro W10 kI10 b10 s10))
  have F10 := F9.but tabs b10 (by simpa using hK)
  clear d4
  have c2 := F10.r.c2
  go_upto_region 14 with ((with_reducible refine store_cell rfl 4 _ _ rfl sz_bool K 33 (in16 ⟨ov, (c % 16), A, B, false, 0⟩) (in16 ⟨ov, (c % 16), A, B, c / 256 == 243, 0⟩) 14 (.bool (c / 256 == 243)) rfl rfl kI10 (in16_lt _ _ (by decide)) rfl rfl rfl ?_); intro W11 kI11 b11 s11)
  have F11 := F10.but tabs b11 (by simpa using hK)
  clear c2
  have c1 := F11.r.c1
  go_upto_region 15 with ((with_reducible refine store_cell rfl 3 _ _ rfl sz_int K 33 (in16 ⟨ov, (c % 16), A, B, c / 256 == 243, 0⟩) (in16 ⟨ov, (c % 16), A, B, c / 256 == 243, q'⟩) 15 (.int .i64 q') rfl rfl kI11 (in16_lt _ _ (by decide)) rfl rfl rfl ?_); intro W12 kI12 b12 s12)
  have F12 := F11.but tabs b12 (by simpa using hK)
  clear c1
  go_wp2_with (first | (with_reducible refine load_inR rfl _ rfl K (in16 ⟨ov, (c % 16), A, B, c / 256 == 243, q'⟩) rfl kI12 (in16_size _) ?_) | ((with_reducible refine store_inR rfl _ _ rfl (w.heap.size + 2) (in16 ⟨ov, (c % 16), A, B, c / 256 == 243, q'⟩) z16 rfl rfl F12.z (in16_size _) z16_size (in16_one _) ?_); intro W13 z13 b13 s13; have F13 := F12.done tabs z13 b13))
  exact bodyPost_ret (v := inV ⟨ov, (c % 16), A, B, c / 256 == 243, q'⟩) (results_cell_row rfl _ _ (w.heap.size + 2) 33 _ (0, 0) _ rfl F13.z.h Tryz.underlying33 rfl (szIn inZ)) rfl ⟨rfl, F13.k⟩
set_option maxRecDepth 8000 in
theorem by_0okp (V : Rv w N a len cap zs p c m) (tabs : Tabs w) (g cc op ea eb : Int) (ok : (⟨g, cc, op, ea, eb⟩ : Rw).ok) (h6 : ¬ ea = 6) (h7 : ¬ eb = 6) (h0 : ¬ opM c m (⟨g, cc, op, ea, eb⟩ : Rw) = 0) (h1 : ¬ opM c m (⟨g, cc, op, ea, eb⟩ : Rw) = -1) (hg : ¬ g = 65520) {A : On} {q : Nat} (hA : operM zs c m p ea = some (A, q)) {B : On} {q' : Nat} (hB : operM zs c m q eb = some (B, q')) :
    Calls Tryz.prog 248 #[rdV a len cap p c m, rwV (⟨g, cc, op, ea, eb⟩ : Rw)] w fun e w' => e = .returned (inV ⟨opM c m (⟨g, cc, op, ea, eb⟩ : Rw), 0, A, B, c / 256 == 243, q'⟩) ∧ Below w.heap.size w w' := by
  have F := BF.start V tabs (⟨g, cc, op, ea, eb⟩ : Rw)
  have hO := Lib.hid (fun W (R : Rd W N w.heap.size a len cap zs p c m) (t : Tabs W) => operation_any R t (⟨g, cc, op, ea, eb⟩ : Rw) ok.2.2)
  have hcA := Lib.hid (fun W (R : Rd W N w.heap.size a len cap zs p c m) => operand_yes R ea hA ok.1)
  have hcB := Lib.hid (fun W (R : Rd W N w.heap.size a len cap zs q c m) => operand_yes R eb hB ok.2.1)
  clear hA hB
  generalize opM c m (⟨g, cc, op, ea, eb⟩ : Rw) = ov at *
  clear ok V
  have e6 : (ea == 6) = false := by simpa using h6
  have e7 : (eb == 6) = false := by simpa using h7
  go_enter Tryz.func248, Tryz.ntmps248
  go_upto_region 1 with fail
  generalize ((w.alloc (.cells #[.slice a len cap, .int .i64 p, .int .u32 c, .int .u32 m] 202)).alloc (.cells (rw5 (⟨g, cc, op, ea, eb⟩ : Rw)) 226)).alloc (.cells z16 33) = w1 at *
  have d3 := F.e.cell (i := 3) (v := .int .i64 ea) rfl
  have d4 := F.e.cell (i := 4) (v := .int .i64 eb) rfl
  go_upto_region 3 with fail
  have F3 := F
  clear d3 d4
  go_upto_region 4 with (first | (with_reducible refine load_rwR rfl _ rfl (w.heap.size + 1) (⟨g, cc, op, ea, eb⟩ : Rw) rfl F3.e ?_) | ((with_reducible refine (hO.out _ F3.r F3.t).mono ?_); rintro e W4 ⟨rfl, b4⟩; have F4 := F3.below tabs b4) | ((with_reducible refine store_in_as rfl _ _ rfl (zI ov) (zI_size _) (zI_one _) rfl rfl ?_); intro W5 kI b5))
  have F5 := F4.below tabs b5
  have hK := F4.lt
  generalize W4.heap.size = K at *
  have d0 := kI.cell (i := 0) (v := .int .i64 ov) rfl
  go_upto_region 9 with fail
  clear d0
  have kI5 : Blk W5 K 33 (in16 ⟨ov, 0, onZ, onZ, false, 0⟩) := kI
  have dg := F5.e.cell (i := 0) (v := .int .u32 g) rfl
  go_upto_region 11 with fail
  have F6 := F5
  have kI6 := kI5
  clear dg
  have d3 := F6.e.cell (i := 3) (v := .int .i64 ea) rfl
  go_upto_region 12 with (first | ((with_reducible refine (hcA.out _ F6.r).mono ?_); rintro e W7 ⟨rfl, r7, b7⟩; have F7 := F6.read tabs r7 b7; have kI7 := kI6.but b7 kI6.lt (by simp; omega)) | ((with_reducible refine store_opA rfl _ _ rfl K ⟨ov, 0, onZ, onZ, false, 0⟩ A rfl rfl kI7 ?_); intro W8 kI8 b8 s8))
  have F8 := F7.but tabs b8 (by simpa using hK)
  clear d3
  have d4 := F8.e.cell (i := 4) (v := .int .i64 eb) rfl
  go_upto_region 13 with (first | ((with_reducible refine (hcB.out _ F8.r).mono ?_); rintro e W9 ⟨rfl, r9, b9⟩; have F9 := F8.read tabs r9 b9; have kI9 := kI8.but b9 kI8.lt (by simp; omega)) | ((with_reducible refine store_opB rfl _ _ rfl K ⟨ov, 0, A, onZ, false, 0⟩ B rfl rfl kI9 ?_); intro W10 kI10 b10 s10))
  have F10 := F9.but tabs b10 (by simpa using hK)
  clear d4
  have c2 := F10.r.c2
  go_upto_region 14 with ((with_reducible refine store_cell rfl 4 _ _ rfl sz_bool K 33 (in16 ⟨ov, 0, A, B, false, 0⟩) (in16 ⟨ov, 0, A, B, c / 256 == 243, 0⟩) 14 (.bool (c / 256 == 243)) rfl rfl kI10 (in16_lt _ _ (by decide)) rfl rfl rfl ?_); intro W11 kI11 b11 s11)
  have F11 := F10.but tabs b11 (by simpa using hK)
  clear c2
  have c1 := F11.r.c1
  go_upto_region 15 with ((with_reducible refine store_cell rfl 3 _ _ rfl sz_int K 33 (in16 ⟨ov, 0, A, B, c / 256 == 243, 0⟩) (in16 ⟨ov, 0, A, B, c / 256 == 243, q'⟩) 15 (.int .i64 q') rfl rfl kI11 (in16_lt _ _ (by decide)) rfl rfl rfl ?_); intro W12 kI12 b12 s12)
  have F12 := F11.but tabs b12 (by simpa using hK)
  clear c1
  go_wp2_with (first | (with_reducible refine load_inR rfl _ rfl K (in16 ⟨ov, 0, A, B, c / 256 == 243, q'⟩) rfl kI12 (in16_size _) ?_) | ((with_reducible refine store_inR rfl _ _ rfl (w.heap.size + 2) (in16 ⟨ov, 0, A, B, c / 256 == 243, q'⟩) z16 rfl rfl F12.z (in16_size _) z16_size (in16_one _) ?_); intro W13 z13 b13 s13; have F13 := F12.done tabs z13 b13))
  exact bodyPost_ret (v := inV ⟨ov, 0, A, B, c / 256 == 243, q'⟩) (results_cell_row rfl _ _ (w.heap.size + 2) 33 _ (0, 0) _ rfl F13.z.h Tryz.underlying33 rfl (szIn inZ)) rfl ⟨rfl, F13.k⟩
theorem by_any (V : Rv w N a len cap zs p c 0) (tabs : Tabs w) (r : Rw) (ok : r.ok) :
    Calls Tryz.prog 248 #[rdV a len cap p c 0, rwV r] w fun e w' => e = endM (byM zs c p r) ∧ Below w.heap.size w w' := by
  obtain ⟨g, cc, op, ea, eb⟩ := r
  have fin : ∀ {M : Int} {P : Nat}, (∀ h : opM c M ⟨g, cc, op, ea, eb⟩ = 0, restM zs c M P ⟨g, cc, op, ea, eb⟩ = .ok inZ) ∧ (∀ h : opM c M ⟨g, cc, op, ea, eb⟩ = -1, restM zs c M P ⟨g, cc, op, ea, eb⟩ = .error 90) ∧
      (∀ (h0 : ¬ opM c M ⟨g, cc, op, ea, eb⟩ = 0) (h1 : ¬ opM c M ⟨g, cc, op, ea, eb⟩ = -1),
        (operM zs c M P ea = none ∧ restM zs c M P ⟨g, cc, op, ea, eb⟩ = .error 10) ∨
        (∃ A q, operM zs c M P ea = some (A, q) ∧ ((operM zs c M q eb = none ∧ restM zs c M P ⟨g, cc, op, ea, eb⟩ = .error 10) ∨
          ∃ B q', operM zs c M q eb = some (B, q') ∧ restM zs c M P ⟨g, cc, op, ea, eb⟩ = .ok ⟨opM c M ⟨g, cc, op, ea, eb⟩, if g = 65520 then c % 16 else 0, A, B, c / 256 == 243, q'⟩))) := by
    intro M P
    refine ⟨fun h => ?_, fun h => ?_, fun h0 h1 => ?_⟩
    · unfold restM; rw [if_pos h]
    · unfold restM; rw [if_neg (by rw [h]; decide), if_pos h]
    · unfold restM
      rw [if_neg h0, if_neg h1]
      dsimp only
      cases hA : operM zs c M P ea with
      | none => exact .inl ⟨rfl, rfl⟩
      | some x =>
        obtain ⟨A, q⟩ := x
        refine .inr ⟨A, q, rfl, ?_⟩
        dsimp only
        cases hB : operM zs c M q eb with
        | none => exact .inl ⟨rfl, rfl⟩
        | some x => exact .inr ⟨x.1, x.2, rfl, rfl⟩
  unfold byM
  by_cases h6 : ea = 6
  · subst h6
    rw [if_pos (.inl rfl)]
    by_cases hp : p + 1 ≤ zs.length
    · rw [if_pos hp]
      obtain ⟨f1, f2, f3⟩ := @fin (zs.getD p 0) (p + 1)
      by_cases h0 : opM c (zs.getD p 0) ⟨g, cc, op, 6, eb⟩ = 0
      · rw [f1 h0]; exact by_az V tabs g cc op eb ok hp h0
      by_cases h1 : opM c (zs.getD p 0) ⟨g, cc, op, 6, eb⟩ = -1
      · rw [f2 h1]; exact by_an V tabs g cc op eb ok hp h1
      by_cases hg : g = 65520
      · subst hg
        rcases f3 h0 h1 with ⟨hA, e⟩ | ⟨A, q, hA, ⟨hB, e⟩ | ⟨B, q', hB, e⟩⟩
        · rw [e]; exact by_aAnc V tabs cc op eb ok hp h0 h1 hA
        · rw [e]; exact by_aBnc V tabs cc op eb ok hp h0 h1 hA hB
        · rw [e]; exact by_aokc V tabs cc op eb ok hp h0 h1 hA hB
      · rcases f3 h0 h1 with ⟨hA, e⟩ | ⟨A, q, hA, ⟨hB, e⟩ | ⟨B, q', hB, e⟩⟩
        · rw [e]; exact by_aAnp V tabs g cc op eb ok hp h0 h1 hg hA
        · rw [e]; exact by_aBnp V tabs g cc op eb ok hp h0 h1 hg hA hB
        · rw [e, if_neg hg]; exact by_aokp V tabs g cc op eb ok hp h0 h1 hg hA hB
    · rw [if_neg hp]; exact by_as V tabs g cc op eb ok hp
  · by_cases h7 : eb = 6
    · subst h7
      rw [if_pos (.inr rfl)]
      by_cases hp : p + 1 ≤ zs.length
      · rw [if_pos hp]
        obtain ⟨f1, f2, f3⟩ := @fin (zs.getD p 0) (p + 1)
        by_cases h0 : opM c (zs.getD p 0) ⟨g, cc, op, ea, 6⟩ = 0
        · rw [f1 h0]; exact by_bz V tabs g cc op ea ok h6 hp h0
        by_cases h1 : opM c (zs.getD p 0) ⟨g, cc, op, ea, 6⟩ = -1
        · rw [f2 h1]; exact by_bn V tabs g cc op ea ok h6 hp h1
        by_cases hg : g = 65520
        · subst hg
          rcases f3 h0 h1 with ⟨hA, e⟩ | ⟨A, q, hA, ⟨hB, e⟩ | ⟨B, q', hB, e⟩⟩
          · rw [e]; exact by_bAnc V tabs cc op ea ok h6 hp h0 h1 hA
          · rw [e]; exact by_bBnc V tabs cc op ea ok h6 hp h0 h1 hA hB
          · rw [e]; exact by_bokc V tabs cc op ea ok h6 hp h0 h1 hA hB
        · rcases f3 h0 h1 with ⟨hA, e⟩ | ⟨A, q, hA, ⟨hB, e⟩ | ⟨B, q', hB, e⟩⟩
          · rw [e]; exact by_bAnp V tabs g cc op ea ok h6 hp h0 h1 hg hA
          · rw [e]; exact by_bBnp V tabs g cc op ea ok h6 hp h0 h1 hg hA hB
          · rw [e, if_neg hg]; exact by_bokp V tabs g cc op ea ok h6 hp h0 h1 hg hA hB
      · rw [if_neg hp]; exact by_bs V tabs g cc op ea ok h6 hp
    · rw [if_neg (fun h => h.elim h6 h7)]
      obtain ⟨f1, f2, f3⟩ := @fin 0 p
      by_cases h0 : opM c 0 ⟨g, cc, op, ea, eb⟩ = 0
      · rw [f1 h0]; exact by_0z V tabs g cc op ea eb ok h6 h7 h0
      by_cases h1 : opM c 0 ⟨g, cc, op, ea, eb⟩ = -1
      · rw [f2 h1]; exact by_0n V tabs g cc op ea eb ok h6 h7 h1
      by_cases hg : g = 65520
      · subst hg
        rcases f3 h0 h1 with ⟨hA, e⟩ | ⟨A, q, hA, ⟨hB, e⟩ | ⟨B, q', hB, e⟩⟩
        · rw [e]; exact by_0Anc V tabs cc op ea eb ok h6 h7 h0 h1 hA
        · rw [e]; exact by_0Bnc V tabs cc op ea eb ok h6 h7 h0 h1 hA hB
        · rw [e]; exact by_0okc V tabs cc op ea eb ok h6 h7 h0 h1 hA hB
      · rcases f3 h0 h1 with ⟨hA, e⟩ | ⟨A, q, hA, ⟨hB, e⟩ | ⟨B, q', hB, e⟩⟩
        · rw [e]; exact by_0Anp V tabs g cc op ea eb ok h6 h7 h0 h1 hg hA
        · rw [e]; exact by_0Bnp V tabs g cc op ea eb ok h6 h7 h0 h1 hg hA hB
        · rw [e, if_neg hg]; exact by_0okp V tabs g cc op ea eb ok h6 h7 h0 h1 hg hA hB
end
end Go.Proofs.YtcdoidnfdkodoaaGreatDoor
