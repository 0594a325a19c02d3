import Derived.Test.YtcdoidnfdkodoaaGreatDoorS35
import Derived.Test.YtcdoidnfdkodoaaGreatDoorS36
namespace Go.Proofs.YtcdoidnfdkodoaaGreatDoor
open Go.RowKit
set_option linter.unusedVariables false
set_option linter.unusedSimpArgs false
set_option linter.unusedSectionVars false
abbrev FeY (B : Nat) (m : Mm) (pc : Int) (i : In) : Prop := ∀ W, PAt W B m → Tabs W → Calls Tryz.prog 53 #[mp B, .int .u32 pc] W fun e w' => e = .returned (inV i) ∧ Below W.heap.size W w'
structure FQx (W : World) (B Km Kp : Nat) (pc : Int) : Prop where
  m : W.cell? ⟨Km, 0, none⟩ = some (mp B)
  p : W.cell? ⟨Kp, 0, none⟩ = some (.int .u32 pc)
theorem FQx.below {W W' : World} {B Km Kp : Nat} {pc : Int} (k : FQx W B Km Kp pc) (b : Below W.heap.size W W') : FQx W' B Km Kp pc :=
  ⟨(b.cell (p := ⟨Km, 0, none⟩) (size_of_cell k.m)).trans k.m, (b.cell (p := ⟨Kp, 0, none⟩) (size_of_cell k.p)).trans k.p⟩
set_option maxRecDepth 20000 in
theorem fetch1_yes {B Km Kp Ka : Nat} {m : Mm} {pc : Int} {w : World} (h : PAt w B m) (tabs : Tabs w) (k : FQx w B Km Kp pc) (i : In) (hd : FeY B m pc i) (ka : Blk w Ka 33 z16) :
    Calls Tryz.prog 52 #[cp Km, cp Kp, cp Ka] w fun e w' => e = .returned (.tuple #[]) ∧ Blk w' Ka 33 (in16 i) ∧ But [Ka] w.heap.size w w' := by
  have hD := Lib.hid (hd w h tabs)
  obtain ⟨c0, c1⟩ := k
  clear hd
  go_enter Tryz.func52, Tryz.ntmps52
  go_wp2_with (first | ((with_reducible refine hD.out.mono ?_); rintro e w1 ⟨rfl, b1⟩; have ka1 := ka.below b1 ka.lt) | ((with_reducible refine store_inT rfl _ _ rfl Ka i z16 rfl rfl ka1 rfl ?_); intro w2 ka2 b2 s2))
  exact bodyPost_end (v := .tuple #[]) (by simp [results, Tryz.results52, go_sem]) rfl ⟨rfl, ka2, (But.of b1 [Ka]).trans (b2.mono b1.size (fun k hk => .inl hk))⟩
theorem fqx_new {B : Nat} {m : Mm} {w : World} (h : PAt w B m) (pc : Int) : ∃ W, W = (((((w.alloc (.cells #[mp B] 35)).alloc (.cells #[.int .u32 pc] 23)).alloc (.cells z16 33)).alloc (.cells #[.int .i64 0, .int .u32 0, .int .u32 0, .int .i64 0] 42)).alloc (.cells z16 33)) ∧ PAt W B m ∧ FQx W B (w.heap.size) (w.heap.size + 1) pc ∧ Blk W (w.heap.size + 1 + 1) 33 z16 ∧ Blk W (w.heap.size + 1 + 1 + 1) 42 #[.int .i64 0, .int .u32 0, .int .u32 0, .int .i64 0] ∧ Blk W (w.heap.size + 1 + 1 + 1 + 1) 33 z16 ∧ Below w.heap.size w W ∧ W.heap.size = w.heap.size + 5 := by
  refine ⟨_, rfl, ?_⟩
  have b : Below w.heap.size w (((((w.alloc (.cells #[mp B] 35)).alloc (.cells #[.int .u32 pc] 23)).alloc (.cells z16 33)).alloc (.cells #[.int .i64 0, .int .u32 0, .int .u32 0, .int .i64 0] 42)).alloc (.cells z16 33)) := ((((((Below.refl w.heap.size w).alloc (Nat.le_refl _) (.cells #[mp B] 35)).alloc (by simp) (.cells #[.int .u32 pc] 23)).alloc (by simp; omega) (.cells z16 33)).alloc (by simp; omega) (.cells #[.int .i64 0, .int .u32 0, .int .u32 0, .int .i64 0] 42)).alloc (by simp; omega) (.cells z16 33))
  have k2 := (((Blk.new ((w.alloc (.cells #[mp B] 35)).alloc (.cells #[.int .u32 pc] 23)) 33 z16).alloc (.cells #[.int .i64 0, .int .u32 0, .int .u32 0, .int .i64 0] 42)).alloc (.cells z16 33))
  have k3 := ((Blk.new (((w.alloc (.cells #[mp B] 35)).alloc (.cells #[.int .u32 pc] 23)).alloc (.cells z16 33)) 42 #[.int .i64 0, .int .u32 0, .int .u32 0, .int .i64 0]).alloc (.cells z16 33))
  have k4 := (Blk.new ((((w.alloc (.cells #[mp B] 35)).alloc (.cells #[.int .u32 pc] 23)).alloc (.cells z16 33)).alloc (.cells #[.int .i64 0, .int .u32 0, .int .u32 0, .int .i64 0] 42)) 33 z16)
  simp only [World.size_alloc] at k2 k3 k4
  exact ⟨(((((h.alloc _).alloc _).alloc _).alloc _).alloc _), ⟨by simp [go_sem], by simp [go_sem]⟩, k2, k3, k4, b, by simp⟩
set_option maxRecDepth 20000 in
set_option maxHeartbeats 4000000 in
theorem Fetch_yes {B : Nat} {m : Mm} {w : World} (h : PAt w B m) (tabs : Tb w) (pc : Int) (i : In) (hd : FeY B m pc i) : Calls Tryz.prog 22 #[mp B, .int .u32 pc] w fun e w' => e = .returned (.tuple #[(inV i), fltV 0 0 0 0, .bool true]) ∧ Below w.heap.size w w' := by
  have hmf : ∀ (fn : Fn) (first cap : Array Value) (w : World), (Instr.makeFunc fn first cap).run Tryz.prog w = .ok (.func fn first cap) w := fun _ _ _ _ => rfl
  obtain ⟨w5, e5, h5, hbx, k5, k6, ka, b5, s5⟩ := fqx_new h pc
  have tb := tabs.below b5
  have E5 := Lib.hid e5
  have hD := Lib.hid hd
  clear hd h tabs
  go_enter Tryz.func22, Tryz.ntmps22
  go_upto_region 2 with fail
  have e5' := E5.out
  rw [show (((((w.alloc (.cells #[mp B] 35)).alloc (.cells #[.int .u32 pc] 23)).alloc (.cells z16 33)).alloc (.cells #[.int .i64 0, .int .u32 0, .int .u32 0, .int .i64 0] 42)).alloc (.cells z16 33)) = w5 from e5'.symm]
  clear e5' E5 e5
  have cpc := hbx.p
  have cm := hbx.m
  go_wp2_with fail
  refine (striedF_yes _ pc [w.heap.size + 1 + 1 + 1 + 1] (fun W => Blk W (w.heap.size + 1 + 1 + 1 + 1) 33 (in16 i)) (by simp; omega) (fun W W' hr hb => hr.below hb (by omega))
    (fun W hW => fetch1_yes (h5.below hW h5.lt) (tb.below hW).d (hbx.below hW) i hD.out (ka.below hW ka.lt))).mono ?_
  rintro e w8 ⟨rfl, ka8, r8'⟩
  clear ka
  have ka := ka8
  clear ka8
  replace k5 := k5.but r8' k5.lt (by simp)
  replace k6 := k6.but r8' k6.lt (by simp)
  have rz := b5.trans (r8'.below b5.size (by simp; omega))
  clear hmf hbx h5 cpc cm tb
  have hF := Lib.hid (show w.heap.size + 1 + 1 + 1 + 1 < w8.heap.size from ka.lt)
  have kF := Blk.new w8 42 #[.int .i64 0, .int .u32 0, .int .u32 0, .int .i64 0]
  replace k5 := k5.alloc (.cells #[.int .i64 0, .int .u32 0, .int .u32 0, .int .i64 0] 42)
  replace k6 := k6.alloc (.cells #[.int .i64 0, .int .u32 0, .int .u32 0, .int .i64 0] 42)
  replace ka := ka.alloc (.cells #[.int .i64 0, .int .u32 0, .int .u32 0, .int .i64 0] 42)
  replace rz := rz.alloc rz.size (.cells #[.int .i64 0, .int .u32 0, .int .u32 0, .int .i64 0] 42)
  go_wp2_with fail
  generalize w8.alloc (.cells #[.int .i64 0, .int .u32 0, .int .u32 0, .int .i64 0] 42) = w9 at *
  generalize w8.heap.size = F at *
  refine wp_region_held_drew (S := fun V => Blk V (w.heap.size + 1 + 1 + 1 + 1) 33 (in16 i) ∧ Blk V F 42 #[.int .i64 0, .int .u32 0, .int .u32 0, .int .i64 0]) (by kernel_rfl) ⟨ka.drew, kF.drew⟩ (fun hH => ?_)
  replace k5 := k5.drew
  replace k6 := k6.drew
  replace rz := rz.drew
  clear ka
  have nF := Lib.hid (show w.heap.size + 1 + 1 ≠ F by have := hF.out; omega)
  have nF2 := Lib.hid (show w.heap.size + 1 + 1 + 1 ≠ F by have := hF.out; omega)
  clear kF
  generalize w9.drew = w10 at *
  refine wpAnyH_take (i := 0) (v := .agg (in16 i)) rfl (by kernel_rfl) (by kernel_rfl) (by kernel_rfl) (fun _ _ _ h => h) (Or.inl ⟨by kernel_rfl, ?_⟩) hH ?_
  · intro W hS
    exact run_load_row (by rfl) (by rfl) 33 _ (0, 0) _ hS.1.h Tryz.underlying33 rfl szI
  simp only [Act.put, List.setIfInBounds_toArray, List.set_cons_zero, List.set_cons_succ]
  refine wpAnyH_take (i := 1) (v := .agg #[.int .i64 0, .int .u32 0, .int .u32 0, .int .i64 0]) rfl (by kernel_rfl) (by kernel_rfl) (by kernel_rfl) (fun _ _ _ h => h) (Or.inl ⟨by kernel_rfl, ?_⟩) hH ?_
  · intro W hS
    exact run_load_row (by rfl) (by rfl) 42 _ (0, 0) _ hS.2.h Tryz.underlying42 rfl szF
  simp only [Act.put, List.setIfInBounds_toArray, List.set_cons_zero, List.set_cons_succ]
  refine wpAnyH_take (i := 2) (v := ?_) rfl (by kernel_rfl) (by kernel_rfl) (by kernel_rfl) (fun _ _ _ h => h) (Or.inl ⟨by kernel_rfl, ?_⟩) hH ?_
  rotate_left
  · intro W hS
    go_simp
    try rfl
  simp only [Act.put, List.setIfInBounds_toArray, List.set_cons_zero, List.set_cons_succ, List.getElem_toArray, List.getElem_cons_succ, List.getElem_cons_zero]
  refine wpAnyH_ready (rs := [3]) (by kernel_rfl) (by simp) ?_
  refine AllReadyH.cons rfl (fun K hK => ?_) AllReadyH.nil
  rw [if_pos (by kernel_rfl)]
  refine wp_store_row 33 _ _ rfl (w.heap.size + 1 + 1) (in16 i) rfl rfl 33 z16 k5.h szI rfl (by simp [Value.oneCell']) ?_
  replace k5 := k5.row (in16 i)
  replace k6 := k6.rowOther (M := w.heap.size + 1 + 1) (in16 i) (by omega)
  have hH2 := And.intro (hH.1.rowOther (M := w.heap.size + 1 + 1) (in16 i) (by omega)) (hH.2.rowOther (M := w.heap.size + 1 + 1) (in16 i) (by have := nF.out; omega))
  replace rz := ((But.of rz [w.heap.size + 1 + 1, w.heap.size + 1 + 1 + 1]).setRow (g := w.heap.size + 1 + 1) (by simp) (in16 i))
  refine hK.out _ _ hH2 (fun _ => ?_)
  clear hK K
  try simp only [Act.put, List.setIfInBounds_toArray, List.set_cons_zero, List.set_cons_succ, List.getElem_toArray, List.getElem_cons_succ, List.getElem_cons_zero]
  refine wpAnyH_ready (rs := [4]) (by kernel_rfl) (by simp) ?_
  refine AllReadyH.cons rfl (fun K hK => ?_) AllReadyH.nil
  rw [if_pos (by kernel_rfl)]
  refine wp_store_row 42 _ _ rfl (w.heap.size + 1 + 1 + 1) #[.int .i64 0, .int .u32 0, .int .u32 0, .int .i64 0] rfl rfl 42 #[.int .i64 0, .int .u32 0, .int .u32 0, .int .i64 0] k6.h szF rfl (by simp [Value.oneCell']) ?_
  replace k6 := k6.row #[.int .i64 0, .int .u32 0, .int .u32 0, .int .i64 0]
  replace k5 := k5.rowOther (M := w.heap.size + 1 + 1 + 1) #[.int .i64 0, .int .u32 0, .int .u32 0, .int .i64 0] (by omega)
  have hH3 := And.intro (hH2.1.rowOther (M := w.heap.size + 1 + 1 + 1) #[.int .i64 0, .int .u32 0, .int .u32 0, .int .i64 0] (by omega)) (hH2.2.rowOther (M := w.heap.size + 1 + 1 + 1) #[.int .i64 0, .int .u32 0, .int .u32 0, .int .i64 0] (by have := nF2.out; omega))
  replace rz := rz.setRow (g := w.heap.size + 1 + 1 + 1) (by simp) #[.int .i64 0, .int .u32 0, .int .u32 0, .int .i64 0]
  refine hK.out _ _ hH3 (fun _ => ?_)
  clear hK K
  try simp only [Act.put, List.setIfInBounds_toArray, List.set_cons_zero, List.set_cons_succ, List.getElem_toArray, List.getElem_cons_succ, List.getElem_cons_zero]
  refine wpAnyH_take (i := 5) (v := ?_) rfl (by kernel_rfl) (by kernel_rfl) (by kernel_rfl) (fun _ _ _ h => h) (Or.inl ⟨by kernel_rfl, ?_⟩) hH3 ?_
  rotate_left
  · intro W hS
    go_simp
    try rfl
  simp only [Act.put, List.setIfInBounds_toArray, List.set_cons_zero, List.set_cons_succ, List.getElem_toArray, List.getElem_cons_succ, List.getElem_cons_zero]
  refine wpAnyH_done (by kernel_rfl) ?_ _
  have s20 := k5.cell (i := 0) rfl
  have s21 := k5.cell (i := 1) rfl
  have s22 := k5.cell (i := 2) rfl
  have s23 := k5.cell (i := 3) rfl
  have s24 := k5.cell (i := 4) rfl
  have s25 := k5.cell (i := 5) rfl
  have s26 := k5.cell (i := 6) rfl
  have s27 := k5.cell (i := 7) rfl
  have s28 := k5.cell (i := 8) rfl
  have s29 := k5.cell (i := 9) rfl
  have s30 := k5.cell (i := 10) rfl
  have s31 := k5.cell (i := 11) rfl
  have s32 := k5.cell (i := 12) rfl
  have s33 := k5.cell (i := 13) rfl
  have s34 := k5.cell (i := 14) rfl
  have s35 := k5.cell (i := 15) rfl
  have d0 := k6.cell (i := 0) rfl
  have d1 := k6.cell (i := 1) rfl
  have d2 := k6.cell (i := 2) rfl
  have d3 := k6.cell (i := 3) rfl
  go_wp2_with fail
  exact bodyPost_ret (v := .tuple #[.agg (in16 i), fltV 0 0 0 0, .bool true]) (by simp [results, Tryz.results22, go_sem, s20, s21, s22, s23, s24, s25, s26, s27, s28, s29, s30, s31, s32, s33, s34, s35, d0, d1, d2, d3]) rfl ⟨rfl, rz.below (Nat.le_refl _) (by simp; omega)⟩
end Go.Proofs.YtcdoidnfdkodoaaGreatDoor
