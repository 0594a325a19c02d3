/- EncodePlaces. -/
import Derived.Test.YtbfkgakkkibejaaDoorZW
import Derived.Test.YtbfkgakkkibejaaDoorW8
import Derived.Deep.CutRange
namespace Go.Proofs.YtbfkgakkkibejaaDoor
open Go.RowKit
set_option linter.unusedVariables false
set_option linter.unusedSimpArgs false
set_option linter.unusedSectionVars false

theorem lregp_any (r : Int) (w : World) : Calls Tryd.prog 15 #[.int .i64 r] w fun e w' => e = .returned (opV (onReg r)) ∧ Below w.heap.size w w' := by
  have kx := (Below.refl w.heap.size w).alloc (Nat.le_refl _) (.cells (op6 (onReg r)) 24)
  go_enter Tryd.func15, Tryd.ntmps15
  go_wp2
  exact bodyPost_ret (v := opV (onReg r)) (by simp [results, Tryd.results15, go_sem, onReg]) rfl ⟨rfl, kx⟩
theorem wd_m {v b x s : Int} (hv : 0 ≤ v ∧ v ≤ 4294967295) : Wd ⟨1, 0, onReg 3, onMem v b x s, false, 0⟩ := ⟨by simp [onReg], hv⟩
theorem lenP {v b x s : Int} (hb : -1 ≤ b ∧ b < 8) (hx : (x = -1 ∧ s = 1) ∨ (0 ≤ x ∧ x < 8 ∧ x ≠ 4 ∧ (s = 1 ∨ s = 2 ∨ s = 4 ∨ s = 8))) (hv : 0 ≤ v ∧ v ≤ 4294967295) : lenE ⟨1, 0, onReg 3, onMem v b x s, false, 0⟩ = ((1 + placeLen v b x : Nat) : Int) := by
  have h8 : cA (onMem v b x s) = 8 := cA_mem8 (mem_ok hb hx)
  have hi : isB ⟨1, 0, onReg 3, onMem v b x s, false, 0⟩ = true := isB_sets (SA := [2]) (SB := [8]) (by kernel_rfl) (by decide) (by rw [h8]; decide) rfl rfl (by decide)
  unfold lenE
  rw [if_pos (show isE ⟨1, 0, onReg 3, onMem v b x s, false, 0⟩ = true from hi), mov_place hb hx hv]
theorem want_len {v y x L : Int} (hv : 0 ≤ v ∧ v ≤ 4294967295) (hL : ((1 + placeLen v y x : Nat) : Int) = L) :
    L = 1 + (if 0 ≤ x ∨ y = 4 then 2 else 1) + (if y < 0 then 4 else if v = 0 ∧ ¬ y = 5 then 0 else if -128 ≤ wrap32 v ∧ wrap32 v < 128 then 1 else 4) := by
  have hw : wrap32 v = if v < 2147483648 then v else v - 4294967296 := by unfold wrap32; split <;> omega
  have hf : (fitI v = true) ↔ (-128 ≤ wrap32 v ∧ wrap32 v < 128) := by
    rw [fit_iff hv, hw]
    simp
    split <;> omega
  subst hL
  unfold placeLen
  by_cases h1 : 0 ≤ x ∨ y = 4
  · rw [if_pos h1, if_pos h1]
    by_cases h2 : y < 0
    · rw [if_pos h2, if_pos h2]; rfl
    · rw [if_neg h2, if_neg h2]
      by_cases h3 : v = 0 ∧ ¬ y = 5
      · rw [if_pos h3, if_pos h3]; rfl
      · rw [if_neg h3, if_neg h3]
        by_cases h4 : -128 ≤ wrap32 v ∧ wrap32 v < 128
        · rw [if_pos (hf.2 h4), if_pos h4]; rfl
        · rw [if_neg (fun h => h4 (hf.1 h)), if_neg h4]; rfl
  · rw [if_neg h1, if_neg h1]
    by_cases h2 : y < 0
    · rw [if_pos h2, if_pos h2]; rfl
    · rw [if_neg h2, if_neg h2]
      by_cases h3 : v = 0 ∧ ¬ y = 5
      · rw [if_pos h3, if_pos h3]; rfl
      · rw [if_neg h3, if_neg h3]
        by_cases h4 : -128 ≤ wrap32 v ∧ wrap32 v < 128
        · rw [if_pos (hf.2 h4), if_pos h4]; rfl
        · rw [if_neg (fun h => h4 (hf.1 h)), if_neg h4]; rfl
set_option maxRecDepth 20000 in
set_option maxHeartbeats 8000000 in
theorem eplaces_none (w : World) (tabs : Tabs w) {bb ii ss v y x : Int} (hbb : 0 ≤ bb ∧ bb ≤ 255) (hii : 0 ≤ ii ∧ ii ≤ 255) (hss : 0 ≤ ss ∧ ss ≤ 255) (hv : 0 ≤ v ∧ v ≤ 4294967295)
    (hbi : bb % 9 = y + 1) (hxi : ii % 9 = x + 1) (hy : -1 ≤ y ∧ y < 8) (hx : x = -1) :
    Calls Tryd.prog 7 #[.int .u8 bb, .int .u8 ii, .int .u8 ss, .int .u32 v] w fun e w' => e = .returned (.bool true) ∧ Below w.heap.size w w' := by
  have hK := Lib.hid (known_any w tabs)
  have hR := Lib.hid (fun W => lregp_any 3 W)
  have hl := lenP (v := v) (b := y) (x := -1) (s := 1) hy (by omega) hv
  obtain ⟨L, hLd⟩ : ∃ L : Int, ((1 + placeLen v y (-1) : Nat) : Int) = L := ⟨_, rfl⟩
  have hW := Lib.hid (want_len hv hLd)
  rw [hLd] at hl
  have hL := Lib.hid (fun W t => Len_at (wd_m hv) hl W t)
  clear hl hLd
  go_enter Tryd.func7, Tryd.ntmps7
  go_upto_region 10 with (first | ((with_reducible refine hK.out.mono ?_); rintro e W1 ⟨rfl, b1⟩) | ((with_reducible refine (hR.out _).mono ?_); rintro e W2 ⟨rfl, b2⟩; have b12 := b1.trans (b2.mono b1.size)) | (go_at_call 11; refine (hL.out _ (tabs.below b12)).mono ?_; rintro e W3 ⟨rfl, b3⟩; have b13 := b12.trans (b3.mono b12.size)))
  have hQ := hW.out
  clear hW hK hR hL
  have HQ := Lib.hid hQ
  have HV := Lib.hid (show (v < 2147483648 ∧ wrap32 v = v) ∨ (2147483648 ≤ v ∧ wrap32 v = v - 4294967296) by unfold wrap32; omega)
  clear hQ
  go_wp2_with fail
  all_goals (go_ret; refine ⟨?_, b13⟩; have hQ := HQ.out; have hV := HV.out; clear HV HQ tabs b1 b2 b3 b12 b13; simp only [beq_iff_eq, bne_iff_ne, beq_eq_false_iff_ne, bne_eq_false_iff_eq, ne_eq, decide_eq_true_eq, decide_eq_false_iff_not] at *; show Ending.returned (Value.bool _) = _; congr 2; rw [beq_iff_eq]; rw [hQ]; (repeat' split) <;> omega)
set_option maxRecDepth 20000 in
set_option maxHeartbeats 8000000 in
theorem eplaces_four (w : World) (tabs : Tabs w) {bb ii ss v y x : Int} (hbb : 0 ≤ bb ∧ bb ≤ 255) (hii : 0 ≤ ii ∧ ii ≤ 255) (hss : 0 ≤ ss ∧ ss ≤ 255) (hv : 0 ≤ v ∧ v ≤ 4294967295)
    (hbi : bb % 9 = y + 1) (hxi : ii % 9 = x + 1) (hy : -1 ≤ y ∧ y < 8) (hx : x = 4) :
    Calls Tryd.prog 7 #[.int .u8 bb, .int .u8 ii, .int .u8 ss, .int .u32 v] w fun e w' => e = .returned (.bool true) ∧ Below w.heap.size w w' := by
  have hK := Lib.hid (known_any w tabs)
  have hR := Lib.hid (fun W => lregp_any 3 W)
  have hl := lenP (v := v) (b := y) (x := -1) (s := 1) hy (by omega) hv
  obtain ⟨L, hLd⟩ : ∃ L : Int, ((1 + placeLen v y (-1) : Nat) : Int) = L := ⟨_, rfl⟩
  have hW := Lib.hid (want_len hv hLd)
  rw [hLd] at hl
  have hL := Lib.hid (fun W t => Len_at (wd_m hv) hl W t)
  clear hl hLd
  go_enter Tryd.func7, Tryd.ntmps7
  go_upto_region 10 with (first | ((with_reducible refine hK.out.mono ?_); rintro e W1 ⟨rfl, b1⟩) | ((with_reducible refine (hR.out _).mono ?_); rintro e W2 ⟨rfl, b2⟩; have b12 := b1.trans (b2.mono b1.size)) | (go_at_call 11; refine (hL.out _ (tabs.below b12)).mono ?_; rintro e W3 ⟨rfl, b3⟩; have b13 := b12.trans (b3.mono b12.size)))
  have hQ := hW.out
  clear hW hK hR hL
  have HQ := Lib.hid hQ
  have HV := Lib.hid (show (v < 2147483648 ∧ wrap32 v = v) ∨ (2147483648 ≤ v ∧ wrap32 v = v - 4294967296) by unfold wrap32; omega)
  clear hQ
  go_wp2_with fail
  all_goals (go_ret; refine ⟨?_, b13⟩; have hQ := HQ.out; have hV := HV.out; clear HV HQ tabs b1 b2 b3 b12 b13; simp only [beq_iff_eq, bne_iff_ne, beq_eq_false_iff_ne, bne_eq_false_iff_eq, ne_eq, decide_eq_true_eq, decide_eq_false_iff_not] at *; show Ending.returned (Value.bool _) = _; congr 2; rw [beq_iff_eq]; rw [hQ]; (repeat' split) <;> omega)
set_option maxRecDepth 20000 in
set_option maxHeartbeats 8000000 in
theorem eplaces_s0 (w : World) (tabs : Tabs w) {bb ii ss v y x : Int} (hbb : 0 ≤ bb ∧ bb ≤ 255) (hii : 0 ≤ ii ∧ ii ≤ 255) (hss : 0 ≤ ss ∧ ss ≤ 255) (hv : 0 ≤ v ∧ v ≤ 4294967295)
    (hbi : bb % 9 = y + 1) (hxi : ii % 9 = x + 1) (hy : -1 ≤ y ∧ y < 8) (hx : 0 ≤ x ∧ x < 8) (hx4p : ¬ x = 4) (hx4 : (x == 4) = false) (hs : ss % 4 = 0) :
    Calls Tryd.prog 7 #[.int .u8 bb, .int .u8 ii, .int .u8 ss, .int .u32 v] w fun e w' => e = .returned (.bool true) ∧ Below w.heap.size w w' := by
  have hK := Lib.hid (known_any w tabs)
  have hR := Lib.hid (fun W => lregp_any 3 W)
  have hl := lenP (v := v) (b := y) (x := x) (s := 1) hy (by omega) hv
  obtain ⟨L, hLd⟩ : ∃ L : Int, ((1 + placeLen v y (x) : Nat) : Int) = L := ⟨_, rfl⟩
  have hW := Lib.hid (want_len hv hLd)
  rw [hLd] at hl
  have hL := Lib.hid (fun W t => Len_at (wd_m hv) hl W t)
  clear hl hLd
  go_enter Tryd.func7, Tryd.ntmps7
  go_upto_region 10 with (first | ((with_reducible refine hK.out.mono ?_); rintro e W1 ⟨rfl, b1⟩) | ((with_reducible refine (hR.out _).mono ?_); rintro e W2 ⟨rfl, b2⟩; have b12 := b1.trans (b2.mono b1.size)) | (go_at_call 11; refine (hL.out _ (tabs.below b12)).mono ?_; rintro e W3 ⟨rfl, b3⟩; have b13 := b12.trans (b3.mono b12.size)))
  have hQ := hW.out
  clear hW hK hR hL
  have HQ := Lib.hid hQ
  have HV := Lib.hid (show (v < 2147483648 ∧ wrap32 v = v) ∨ (2147483648 ≤ v ∧ wrap32 v = v - 4294967296) by unfold wrap32; omega)
  clear hQ
  go_wp2_with fail
  all_goals (go_ret; refine ⟨?_, b13⟩; have hQ := HQ.out; have hV := HV.out; clear HV HQ tabs b1 b2 b3 b12 b13; simp only [beq_iff_eq, bne_iff_ne, beq_eq_false_iff_ne, bne_eq_false_iff_eq, ne_eq, decide_eq_true_eq, decide_eq_false_iff_not] at *; show Ending.returned (Value.bool _) = _; congr 2; rw [beq_iff_eq]; rw [hQ]; (repeat' split) <;> omega)
set_option maxRecDepth 20000 in
set_option maxHeartbeats 8000000 in
theorem eplaces_s1 (w : World) (tabs : Tabs w) {bb ii ss v y x : Int} (hbb : 0 ≤ bb ∧ bb ≤ 255) (hii : 0 ≤ ii ∧ ii ≤ 255) (hss : 0 ≤ ss ∧ ss ≤ 255) (hv : 0 ≤ v ∧ v ≤ 4294967295)
    (hbi : bb % 9 = y + 1) (hxi : ii % 9 = x + 1) (hy : -1 ≤ y ∧ y < 8) (hx : 0 ≤ x ∧ x < 8) (hx4p : ¬ x = 4) (hx4 : (x == 4) = false) (hs : ss % 4 = 1) :
    Calls Tryd.prog 7 #[.int .u8 bb, .int .u8 ii, .int .u8 ss, .int .u32 v] w fun e w' => e = .returned (.bool true) ∧ Below w.heap.size w w' := by
  have hK := Lib.hid (known_any w tabs)
  have hR := Lib.hid (fun W => lregp_any 3 W)
  have hl := lenP (v := v) (b := y) (x := x) (s := 2) hy (by omega) hv
  obtain ⟨L, hLd⟩ : ∃ L : Int, ((1 + placeLen v y (x) : Nat) : Int) = L := ⟨_, rfl⟩
  have hW := Lib.hid (want_len hv hLd)
  rw [hLd] at hl
  have hL := Lib.hid (fun W t => Len_at (wd_m hv) hl W t)
  clear hl hLd
  go_enter Tryd.func7, Tryd.ntmps7
  go_upto_region 10 with (first | ((with_reducible refine hK.out.mono ?_); rintro e W1 ⟨rfl, b1⟩) | ((with_reducible refine (hR.out _).mono ?_); rintro e W2 ⟨rfl, b2⟩; have b12 := b1.trans (b2.mono b1.size)) | (go_at_call 11; refine (hL.out _ (tabs.below b12)).mono ?_; rintro e W3 ⟨rfl, b3⟩; have b13 := b12.trans (b3.mono b12.size)))
  have hQ := hW.out
  clear hW hK hR hL
  have HQ := Lib.hid hQ
  have HV := Lib.hid (show (v < 2147483648 ∧ wrap32 v = v) ∨ (2147483648 ≤ v ∧ wrap32 v = v - 4294967296) by unfold wrap32; omega)
  clear hQ
  go_wp2_with fail
  all_goals (go_ret; refine ⟨?_, b13⟩; have hQ := HQ.out; have hV := HV.out; clear HV HQ tabs b1 b2 b3 b12 b13; simp only [beq_iff_eq, bne_iff_ne, beq_eq_false_iff_ne, bne_eq_false_iff_eq, ne_eq, decide_eq_true_eq, decide_eq_false_iff_not] at *; show Ending.returned (Value.bool _) = _; congr 2; rw [beq_iff_eq]; rw [hQ]; (repeat' split) <;> omega)
set_option maxRecDepth 20000 in
set_option maxHeartbeats 8000000 in
theorem eplaces_s2 (w : World) (tabs : Tabs w) {bb ii ss v y x : Int} (hbb : 0 ≤ bb ∧ bb ≤ 255) (hii : 0 ≤ ii ∧ ii ≤ 255) (hss : 0 ≤ ss ∧ ss ≤ 255) (hv : 0 ≤ v ∧ v ≤ 4294967295)
    (hbi : bb % 9 = y + 1) (hxi : ii % 9 = x + 1) (hy : -1 ≤ y ∧ y < 8) (hx : 0 ≤ x ∧ x < 8) (hx4p : ¬ x = 4) (hx4 : (x == 4) = false) (hs : ss % 4 = 2) :
    Calls Tryd.prog 7 #[.int .u8 bb, .int .u8 ii, .int .u8 ss, .int .u32 v] w fun e w' => e = .returned (.bool true) ∧ Below w.heap.size w w' := by
  have hK := Lib.hid (known_any w tabs)
  have hR := Lib.hid (fun W => lregp_any 3 W)
  have hl := lenP (v := v) (b := y) (x := x) (s := 4) hy (by omega) hv
  obtain ⟨L, hLd⟩ : ∃ L : Int, ((1 + placeLen v y (x) : Nat) : Int) = L := ⟨_, rfl⟩
  have hW := Lib.hid (want_len hv hLd)
  rw [hLd] at hl
  have hL := Lib.hid (fun W t => Len_at (wd_m hv) hl W t)
  clear hl hLd
  go_enter Tryd.func7, Tryd.ntmps7
  go_upto_region 10 with (first | ((with_reducible refine hK.out.mono ?_); rintro e W1 ⟨rfl, b1⟩) | ((with_reducible refine (hR.out _).mono ?_); rintro e W2 ⟨rfl, b2⟩; have b12 := b1.trans (b2.mono b1.size)) | (go_at_call 11; refine (hL.out _ (tabs.below b12)).mono ?_; rintro e W3 ⟨rfl, b3⟩; have b13 := b12.trans (b3.mono b12.size)))
  have hQ := hW.out
  clear hW hK hR hL
  have HQ := Lib.hid hQ
  have HV := Lib.hid (show (v < 2147483648 ∧ wrap32 v = v) ∨ (2147483648 ≤ v ∧ wrap32 v = v - 4294967296) by unfold wrap32; omega)
  clear hQ
  go_wp2_with fail
  all_goals (go_ret; refine ⟨?_, b13⟩; have hQ := HQ.out; have hV := HV.out; clear HV HQ tabs b1 b2 b3 b12 b13; simp only [beq_iff_eq, bne_iff_ne, beq_eq_false_iff_ne, bne_eq_false_iff_eq, ne_eq, decide_eq_true_eq, decide_eq_false_iff_not] at *; show Ending.returned (Value.bool _) = _; congr 2; rw [beq_iff_eq]; rw [hQ]; (repeat' split) <;> omega)
set_option maxRecDepth 20000 in
set_option maxHeartbeats 8000000 in
theorem eplaces_s3 (w : World) (tabs : Tabs w) {bb ii ss v y x : Int} (hbb : 0 ≤ bb ∧ bb ≤ 255) (hii : 0 ≤ ii ∧ ii ≤ 255) (hss : 0 ≤ ss ∧ ss ≤ 255) (hv : 0 ≤ v ∧ v ≤ 4294967295)
    (hbi : bb % 9 = y + 1) (hxi : ii % 9 = x + 1) (hy : -1 ≤ y ∧ y < 8) (hx : 0 ≤ x ∧ x < 8) (hx4p : ¬ x = 4) (hx4 : (x == 4) = false) (hs : ss % 4 = 3) :
    Calls Tryd.prog 7 #[.int .u8 bb, .int .u8 ii, .int .u8 ss, .int .u32 v] w fun e w' => e = .returned (.bool true) ∧ Below w.heap.size w w' := by
  have hK := Lib.hid (known_any w tabs)
  have hR := Lib.hid (fun W => lregp_any 3 W)
  have hl := lenP (v := v) (b := y) (x := x) (s := 8) hy (by omega) hv
  obtain ⟨L, hLd⟩ : ∃ L : Int, ((1 + placeLen v y (x) : Nat) : Int) = L := ⟨_, rfl⟩
  have hW := Lib.hid (want_len hv hLd)
  rw [hLd] at hl
  have hL := Lib.hid (fun W t => Len_at (wd_m hv) hl W t)
  clear hl hLd
  go_enter Tryd.func7, Tryd.ntmps7
  go_upto_region 10 with (first | ((with_reducible refine hK.out.mono ?_); rintro e W1 ⟨rfl, b1⟩) | ((with_reducible refine (hR.out _).mono ?_); rintro e W2 ⟨rfl, b2⟩; have b12 := b1.trans (b2.mono b1.size)) | (go_at_call 11; refine (hL.out _ (tabs.below b12)).mono ?_; rintro e W3 ⟨rfl, b3⟩; have b13 := b12.trans (b3.mono b12.size)))
  have hQ := hW.out
  clear hW hK hR hL
  have HQ := Lib.hid hQ
  have HV := Lib.hid (show (v < 2147483648 ∧ wrap32 v = v) ∨ (2147483648 ≤ v ∧ wrap32 v = v - 4294967296) by unfold wrap32; omega)
  clear hQ
  go_wp2_with fail
  all_goals (go_ret; refine ⟨?_, b13⟩; have hQ := HQ.out; have hV := HV.out; clear HV HQ tabs b1 b2 b3 b12 b13; simp only [beq_iff_eq, bne_iff_ne, beq_eq_false_iff_ne, bne_eq_false_iff_eq, ne_eq, decide_eq_true_eq, decide_eq_false_iff_not] at *; show Ending.returned (Value.bool _) = _; congr 2; rw [beq_iff_eq]; rw [hQ]; (repeat' split) <;> omega)
theorem eplaces_any (w : World) (tabs : Tabs w) {bb ii ss v : Int} (hbb : 0 ≤ bb ∧ bb ≤ 255) (hii : 0 ≤ ii ∧ ii ≤ 255) (hss : 0 ≤ ss ∧ ss ≤ 255) (hv : 0 ≤ v ∧ v ≤ 4294967295) :
    Calls Tryd.prog 7 #[.int .u8 bb, .int .u8 ii, .int .u8 ss, .int .u32 v] w fun e w' => e = .returned (.bool true) ∧ Below w.heap.size w w' := by
  have hb : bb % 9 = (bb % 9 - 1) + 1 := by omega
  have hi : ii % 9 = (ii % 9 - 1) + 1 := by omega
  have hy : -1 ≤ bb % 9 - 1 ∧ bb % 9 - 1 < 8 := by omega
  by_cases h1 : ii % 9 - 1 = -1
  · exact eplaces_none w tabs hbb hii hss hv hb hi hy h1
  · by_cases h4 : ii % 9 - 1 = 4
    · exact eplaces_four w tabs hbb hii hss hv hb hi hy h4
    · have hx : 0 ≤ ii % 9 - 1 ∧ ii % 9 - 1 < 8 := by omega
      have hx4 : (ii % 9 - 1 == 4) = false := by simp [h4]
      rcases (by omega : ss % 4 = 0 ∨ ss % 4 = 1 ∨ ss % 4 = 2 ∨ ss % 4 = 3) with h | h | h | h
      · exact eplaces_s0 w tabs hbb hii hss hv hb hi hy hx h4 hx4 h
      · exact eplaces_s1 w tabs hbb hii hss hv hb hi hy hx h4 hx4 h
      · exact eplaces_s2 w tabs hbb hii hss hv hb hi hy hx h4 hx4 h
      · exact eplaces_s3 w tabs hbb hii hss hv hb hi hy hx h4 hx4 h
end Go.Proofs.YtbfkgakkkibejaaDoor
