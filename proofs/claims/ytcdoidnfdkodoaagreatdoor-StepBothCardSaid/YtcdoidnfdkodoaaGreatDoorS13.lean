import Derived.Test.YtcdoidnfdkodoaaGreatDoorS12
import Derived.Deep.CutRange
import Derived.Lib.Hide
namespace Go.Proofs.YtcdoidnfdkodoaaGreatDoor
open Go.RowKit
set_option linter.unusedVariables false
set_option linter.unusedSimpArgs false
set_option linter.unusedSectionVars false
abbrev fltQ (k a t : Int) : List PanicEntry := [{ v := .iface 42 (fltV k 0 a t), recovered := false }]
set_option maxRecDepth 8000 in
theorem must_yes (k a t : Int) (w : World) : Calls Tryz.prog 141 #[fltV k 0 a t, .bool true] w fun e w' => e = .returned (.tuple #[]) ∧ Below w.heap.size w w' := by
  have b := (Below.refl w.heap.size w).alloc (Nat.le_refl _) (.cells #[.int .i64 k, .int .u32 0, .int .u32 a, .int .i64 t] 42)
  go_enter Tryz.func141, Tryz.ntmps141
  go_wp2_with fail
  exact bodyPost_end (v := .tuple #[]) (by simp [results, Tryz.results141, go_sem]) rfl ⟨rfl, b⟩
set_option maxRecDepth 8000 in
theorem must_no (k a t : Int) (w : World) : Calls Tryz.prog 141 #[fltV k 0 a t, .bool false] w fun e w' => e = .panicked (fltQ k a t) ∧ Below w.heap.size w w' := by
  have b := (Below.refl w.heap.size w).alloc (Nat.le_refl _) (.cells #[.int .i64 k, .int .u32 0, .int .u32 a, .int .i64 t] 42)
  obtain ⟨d0, d1, d2, d3, -⟩ := Four.begun w k 0 a t 42
  go_enter Tryz.func141, Tryz.ntmps141
  go_wp2_with fail
  exact ⟨rfl, rfl, b⟩
abbrev atO (a : Int) : On := ⟨3, 0, a, -1, -1, 1⟩
theorem at_any (a : Int) (w : World) : Calls Tryz.prog 209 #[.int .u32 a] w fun e w' => e = .returned (opV (atO a)) ∧ Below w.heap.size w w' := by
  have b := (Below.refl w.heap.size w).alloc (Nat.le_refl _) (.cells (op6 (atO a)) 31)
  go_enter Tryz.func209, Tryz.ntmps209
  go_wp2_with fail
  exact bodyPost_ret (v := opV (atO a)) (by simp [results, Tryz.results209, go_sem]) rfl ⟨rfl, b⟩
def Nrm (R : Act → World → Prop) : Exit → Act → World → Prop
  | .normal, a, w => R a w
  | _, _, _ => False
theorem cut_region {P : Program} {c : Code} {Q : Exit → Act → World → Prop} {a : Act} {w : World} (R : Act → World → Prop) (k : ∀ a w, R a w → Q .normal a w) (h : c.wp P (Nrm R) a w) : c.wp P Q a w :=
  Code.wp_mono (fun e a w hn => by cases e <;> first | exact k _ _ hn | exact (hn : False).elim) h
theorem want_plain {P : Program} {o : Oper} {a : Act} {w : World} {K : Act → World → Prop} {Q : Exit → Act → World → Prop} {ops : Array Oper} (h : o.guard = none) (hw : o.wp P a w K Q) : if Region.wanted o (yielded ops a.tmps) = true then o.wp P a w K Q else K (a.put o.dst undef) w := by
  rw [if_pos (by simp [Region.wanted, h])]
  exact hw
theorem cut_at {P : Program} {c : Code} {Q : Exit → Act → World → Prop} {a : Act} {w : World} (R : Act → Act → World → Prop) (k : ∀ a' w, R a a' w → Q .normal a' w) (h : c.wp P (Nrm (R a)) a w) : c.wp P Q a w :=
  cut_region (R a) k h
set_option maxRecDepth 20000 in
set_option maxHeartbeats 2000000 in
theorem gread_yes {w : World} {G B : Nat} {g : Gs} {m : Mm} (h : GuAt w G B g m) (o : On) (n : Int) (v : Int) (hr : ∀ W, PAt W B m → Calls Tryz.prog 197 #[mp B, stV g, opV o, .int .i64 n] W fun e w' => e = .returned (.tuple #[.int .u32 v, fltV 0 0 0 0, .bool true]) ∧ Below W.heap.size W w') :
    Calls Tryz.prog 154 #[mp G, opV o, .int .i64 n] w fun e w' => e = .returned (.int .u32 v) ∧ Below w.heap.size w w' := by
  have hR := Lib.hid hr
  have hM := Lib.hid (fun W => must_yes 0 0 0 W)
  clear hr
  have b0 := (Below.refl w.heap.size w).alloc (Nat.le_refl _) (.cells (op6 o) 31)
  have kO := Blk.new w 31 (op6 o)
  have hg := h.below b0
  go_enter Tryz.func154, Tryz.ntmps154
  go_upto_region 1 with fail
  generalize w.alloc (.cells (op6 o) 31) = W0 at *
  have nO := Lib.hid (show w.heap.size < W0.heap.size from kO.lt)
  refine cut_at (fun x x' w' => ∃ N, x' = ((((((((((((((((((x.put (some 11) (mp G)).put (some 12) (mp G)).put (some 13) (mp G)).put (some 14) (mp B)).put (some 15) (mp G)).put (some 16) (mp G)).put (some 17) (.pointer (some ⟨G, 1, none⟩))).put (some 18) (stV g)).put (some 19) (opV o)).put (some 20) (.int .i64 n)).put (some 21) (.tuple #[.int .u32 v, fltV 0 0 0 0, .bool true])).put (some 10) (.tuple #[.int .u32 v, fltV 0 0 0 0, .bool true])).put (some 22) (.int .u32 v)).put (some 23) (fltV 0 0 0 0)).put (some 24) (.bool true)).put (some 8) (.pointer (some ⟨N, 0, none⟩))).put (some 7) (.int .u32 v)).put (some 9) (.bool true)) ∧ Blk w' N 42 #[.int .i64 0, .int .u32 0, .int .u32 0, .int .i64 0] ∧ Below w.heap.size w w') ?_ ?_
  rotate_left
  · refine wp_region_held_drew (S := fun V => GuAt V G B g m ∧ Blk V w.heap.size 31 (op6 o)) (by kernel_rfl) ⟨hg.drew, kO.drew⟩ (fun hH => ?_)
    replace b0 := b0.drew
    clear hg kO h
    generalize W0.drew = W at *
    refine wpAnyH_take (i := 0) (v := ?_) rfl (by kernel_rfl) (by kernel_rfl) (by kernel_rfl) (fun _ _ _ h => h) (Or.inl ⟨by kernel_rfl, ?_⟩) hH ?_
    rotate_left
    · intro W hS
      go_simp
      try rfl
    try simp only [Act.put, List.setIfInBounds_toArray, List.set_cons_zero, List.set_cons_succ, List.getElem_toArray, List.getElem_cons_succ, List.getElem_cons_zero]
    refine wpAnyH_take (i := 1) (v := ?_) rfl (by kernel_rfl) (by kernel_rfl) (by kernel_rfl) (fun _ _ _ h => h) (Or.inl ⟨by kernel_rfl, ?_⟩) hH ?_
    rotate_left
    · intro W hS
      go_simp
      try rfl
    try simp only [Act.put, List.setIfInBounds_toArray, List.set_cons_zero, List.set_cons_succ, List.getElem_toArray, List.getElem_cons_succ, List.getElem_cons_zero]
    refine wpAnyH_take (i := 2) (v := ?_) rfl (by kernel_rfl) (by kernel_rfl) (by kernel_rfl) (fun _ _ _ h => h) (Or.inl ⟨by kernel_rfl, ?_⟩) hH ?_
    rotate_left
    · intro W hS
      go_simp
      try rfl
    try simp only [Act.put, List.setIfInBounds_toArray, List.set_cons_zero, List.set_cons_succ, List.getElem_toArray, List.getElem_cons_succ, List.getElem_cons_zero]
    refine wpAnyH_take (i := 3) (v := mp B) rfl (by kernel_rfl) (by kernel_rfl) (by kernel_rfl) (fun _ _ _ h => h) (Or.inl ⟨by kernel_rfl, ?_⟩) hH ?_
    · intro W hS
      have c1 := hS.1.c.cell (i := 0) (v := mp B) rfl
      go_simp
    try simp only [Act.put, List.setIfInBounds_toArray, List.set_cons_zero, List.set_cons_succ, List.getElem_toArray, List.getElem_cons_succ, List.getElem_cons_zero]
    refine wpAnyH_take (i := 4) (v := ?_) rfl (by kernel_rfl) (by kernel_rfl) (by kernel_rfl) (fun _ _ _ h => h) (Or.inl ⟨by kernel_rfl, ?_⟩) hH ?_
    rotate_left
    · intro W hS
      go_simp
      try rfl
    try simp only [Act.put, List.setIfInBounds_toArray, List.set_cons_zero, List.set_cons_succ, List.getElem_toArray, List.getElem_cons_succ, List.getElem_cons_zero]
    refine wpAnyH_take (i := 5) (v := ?_) rfl (by kernel_rfl) (by kernel_rfl) (by kernel_rfl) (fun _ _ _ h => h) (Or.inl ⟨by kernel_rfl, ?_⟩) hH ?_
    rotate_left
    · intro W hS
      go_simp
      try rfl
    try simp only [Act.put, List.setIfInBounds_toArray, List.set_cons_zero, List.set_cons_succ, List.getElem_toArray, List.getElem_cons_succ, List.getElem_cons_zero]
    refine wpAnyH_take (i := 6) (v := ?_) rfl (by kernel_rfl) (by kernel_rfl) (by kernel_rfl) (fun _ _ _ h => h) (Or.inl ⟨by kernel_rfl, ?_⟩) hH ?_
    rotate_left
    · intro W hS
      go_simp
      try rfl
    try simp only [Act.put, List.setIfInBounds_toArray, List.set_cons_zero, List.set_cons_succ, List.getElem_toArray, List.getElem_cons_succ, List.getElem_cons_zero]
    refine wpAnyH_take (i := 7) (v := stV g) rfl (by kernel_rfl) (by kernel_rfl) (by kernel_rfl) (fun _ _ _ h => h) (Or.inl ⟨by kernel_rfl, ?_⟩) hH ?_
    · intro W hS
      exact run_load_gst (by rfl) (by rfl) hS.1
    try simp only [Act.put, List.setIfInBounds_toArray, List.set_cons_zero, List.set_cons_succ, List.getElem_toArray, List.getElem_cons_succ, List.getElem_cons_zero]
    refine wpAnyH_take (i := 8) (v := opV o) rfl (by kernel_rfl) (by kernel_rfl) (by kernel_rfl) (fun _ _ _ h => h) (Or.inl ⟨by kernel_rfl, ?_⟩) hH ?_
    · intro W hS
      exact run_load_op (by rfl) (by rfl) hS.2
    try simp only [Act.put, List.setIfInBounds_toArray, List.set_cons_zero, List.set_cons_succ, List.getElem_toArray, List.getElem_cons_succ, List.getElem_cons_zero]
    refine wpAnyH_take (i := 9) (v := ?_) rfl (by kernel_rfl) (by kernel_rfl) (by kernel_rfl) (fun _ _ _ h => h) (Or.inl ⟨by kernel_rfl, ?_⟩) hH ?_
    rotate_left
    · intro W hS
      go_simp
      try rfl
    try simp only [Act.put, List.setIfInBounds_toArray, List.set_cons_zero, List.set_cons_succ, List.getElem_toArray, List.getElem_cons_succ, List.getElem_cons_zero]
    refine wpAnyH_ready (rs := [10, 15]) (by kernel_rfl) (by simp) ?_
    refine AllReadyH.cons rfl (fun K hK => ?_) (AllReadyH.cons rfl (fun K hK => ?_) AllReadyH.nil)
    · go_simp
      with_reducible refine (hR.out _ hH.1.p).mono ?_
      rintro e Wx1 ⟨rfl, bx⟩
      replace b0 := b0.trans (bx.mono b0.size)
      replace hH := And.intro (hH.1.below bx) (hH.2.below bx hH.2.lt)
      clear bx
      refine hK.out _ _ hH (fun _ => ?_)
      clear hK K
      try simp only [Act.put, List.setIfInBounds_toArray, List.set_cons_zero, List.set_cons_succ, List.getElem_toArray, List.getElem_cons_succ, List.getElem_cons_zero]
      refine wpAnyH_take (i := 11) (v := .tuple #[.int .u32 v, fltV 0 0 0 0, .bool true]) rfl (by kernel_rfl) (by kernel_rfl) (by kernel_rfl) (fun _ _ _ h => h) (Or.inl ⟨by kernel_rfl, ?_⟩) hH ?_
      · intro W hS
        go_simp
        try rfl
      try simp only [Act.put, List.setIfInBounds_toArray, List.set_cons_zero, List.set_cons_succ, List.getElem_toArray, List.getElem_cons_succ, List.getElem_cons_zero]
      refine wpAnyH_take (i := 12) (v := .int .u32 v) rfl (by kernel_rfl) (by kernel_rfl) (by kernel_rfl) (fun _ _ _ h => h) (Or.inl ⟨by kernel_rfl, ?_⟩) hH ?_
      · intro W hS
        go_simp
        try rfl
      try simp only [Act.put, List.setIfInBounds_toArray, List.set_cons_zero, List.set_cons_succ, List.getElem_toArray, List.getElem_cons_succ, List.getElem_cons_zero]
      refine wpAnyH_take (i := 13) (v := fltV 0 0 0 0) rfl (by kernel_rfl) (by kernel_rfl) (by kernel_rfl) (fun _ _ _ h => h) (Or.inl ⟨by kernel_rfl, ?_⟩) hH ?_
      · intro W hS
        go_simp
        try rfl
      try simp only [Act.put, List.setIfInBounds_toArray, List.set_cons_zero, List.set_cons_succ, List.getElem_toArray, List.getElem_cons_succ, List.getElem_cons_zero]
      refine wpAnyH_take (i := 14) (v := .bool true) rfl (by kernel_rfl) (by kernel_rfl) (by kernel_rfl) (fun _ _ _ h => h) (Or.inl ⟨by kernel_rfl, ?_⟩) hH ?_
      · intro W hS
        go_simp
        try rfl
      try simp only [Act.put, List.setIfInBounds_toArray, List.set_cons_zero, List.set_cons_succ, List.getElem_toArray, List.getElem_cons_succ, List.getElem_cons_zero]
      refine wpAnyH_ready (rs := [15]) (by kernel_rfl) (by simp) ?_
      refine AllReadyH.cons rfl (fun K hK => ?_) AllReadyH.nil
      go_simp
      have kF := Blk.new Wx1 42 #[.int .i64 0, .int .u32 0, .int .u32 0, .int .i64 0]
      have bx := (Below.refl Wx1.heap.size Wx1).alloc (Nat.le_refl _) (.cells #[.int .i64 0, .int .u32 0, .int .u32 0, .int .i64 0] 42)
      have mF := Lib.hid (show w.heap.size < Wx1.heap.size from Nat.lt_of_lt_of_le hH.2.lt (Nat.le_refl _))
      have gF := Lib.hid (show G < Wx1.heap.size from hH.1.c.lt)
      have BF := Lib.hid (show B < Wx1.heap.size from hH.1.p.lt)
      replace b0 := b0.trans (bx.mono b0.size)
      replace hH := And.intro (hH.1.below bx) (hH.2.below bx hH.2.lt)
      clear bx
      generalize Wx1.alloc (.cells #[.int .i64 0, .int .u32 0, .int .u32 0, .int .i64 0] 42) = Wx2 at *
      generalize Wx1.heap.size = N at *
      refine hK.out _ _ hH (fun _ => ?_)
      clear hK K
      try simp only [Act.put, List.setIfInBounds_toArray, List.set_cons_zero, List.set_cons_succ, List.getElem_toArray, List.getElem_cons_succ, List.getElem_cons_zero]
      refine wpAnyH_take (i := 16) (v := .int .u32 v) rfl (by kernel_rfl) (by kernel_rfl) (by kernel_rfl) (fun _ _ _ h => h) (Or.inl ⟨by kernel_rfl, ?_⟩) hH ?_
      · intro W hS
        go_simp
        try rfl
      try simp only [Act.put, List.setIfInBounds_toArray, List.set_cons_zero, List.set_cons_succ, List.getElem_toArray, List.getElem_cons_succ, List.getElem_cons_zero]
      refine wpAnyH_ready (rs := [17]) (by kernel_rfl) (by simp) ?_
      refine AllReadyH.cons rfl (fun K hK => ?_) AllReadyH.nil
      refine want_plain rfl ?_
      refine wp_store_row _ _ _ rfl N #[.int .i64 0, .int .u32 0, .int .u32 0, .int .i64 0] rfl rfl 42 #[.int .i64 0, .int .u32 0, .int .u32 0, .int .i64 0] kF.h szF rfl (by simp [Value.oneCell']) ?_
      have bx := (But.refl [N] Wx2.heap.size Wx2).setRow (g := N) (by simp) #[.int .i64 0, .int .u32 0, .int .u32 0, .int .i64 0]
      replace kF := kF.row #[.int .i64 0, .int .u32 0, .int .u32 0, .int .i64 0]
      replace hH := And.intro (hH.1.but bx (by have := BF.out; simp; omega) (by have := gF.out; simp; omega)) (hH.2.but bx hH.2.lt (by have := mF.out; simp; omega))
      replace b0 := b0.trans (bx.below b0.size (by have := mF.out; simp; omega))
      clear bx
      generalize Wx2.setRow N #[.int .i64 0, .int .u32 0, .int .u32 0, .int .i64 0] = Wx3 at *
      refine hK.out _ _ hH (fun _ => ?_)
      clear hK K
      try simp only [Act.put, List.setIfInBounds_toArray, List.set_cons_zero, List.set_cons_succ, List.getElem_toArray, List.getElem_cons_succ, List.getElem_cons_zero]
      refine wpAnyH_take (i := 18) (v := .bool true) rfl (by kernel_rfl) (by kernel_rfl) (by kernel_rfl) (fun _ _ _ h => h) (Or.inl ⟨by kernel_rfl, ?_⟩) hH ?_
      · intro W hS
        go_simp
        try rfl
      try simp only [Act.put, List.setIfInBounds_toArray, List.set_cons_zero, List.set_cons_succ, List.getElem_toArray, List.getElem_cons_succ, List.getElem_cons_zero]
      refine wpAnyH_done (by kernel_rfl) ?_ _
      exact ⟨N, by kernel_rfl, kF, b0⟩
    · go_simp
      have kF := Blk.new W 42 #[.int .i64 0, .int .u32 0, .int .u32 0, .int .i64 0]
      have bx := (Below.refl W.heap.size W).alloc (Nat.le_refl _) (.cells #[.int .i64 0, .int .u32 0, .int .u32 0, .int .i64 0] 42)
      have mF := Lib.hid (show w.heap.size < W.heap.size from Nat.lt_of_lt_of_le hH.2.lt (Nat.le_refl _))
      have gF := Lib.hid (show G < W.heap.size from hH.1.c.lt)
      have BF := Lib.hid (show B < W.heap.size from hH.1.p.lt)
      replace b0 := b0.trans (bx.mono b0.size)
      replace hH := And.intro (hH.1.below bx) (hH.2.below bx hH.2.lt)
      clear bx
      generalize W.alloc (.cells #[.int .i64 0, .int .u32 0, .int .u32 0, .int .i64 0] 42) = Wx1 at *
      generalize W.heap.size = N at *
      refine hK.out _ _ hH (fun _ => ?_)
      clear hK K
      try simp only [Act.put, List.setIfInBounds_toArray, List.set_cons_zero, List.set_cons_succ, List.getElem_toArray, List.getElem_cons_succ, List.getElem_cons_zero]
      refine wpAnyH_ready (rs := [10]) (by kernel_rfl) (by simp) ?_
      refine AllReadyH.cons rfl (fun K hK => ?_) AllReadyH.nil
      go_simp
      with_reducible refine (hR.out _ hH.1.p).mono ?_
      rintro e Wx2 ⟨rfl, bx⟩
      replace b0 := b0.trans (bx.mono b0.size)
      replace hH := And.intro (hH.1.below bx) (hH.2.below bx hH.2.lt)
      replace kF := kF.below bx kF.lt
      clear bx
      refine hK.out _ _ hH (fun _ => ?_)
      clear hK K
      try simp only [Act.put, List.setIfInBounds_toArray, List.set_cons_zero, List.set_cons_succ, List.getElem_toArray, List.getElem_cons_succ, List.getElem_cons_zero]
      refine wpAnyH_take (i := 11) (v := .tuple #[.int .u32 v, fltV 0 0 0 0, .bool true]) rfl (by kernel_rfl) (by kernel_rfl) (by kernel_rfl) (fun _ _ _ h => h) (Or.inl ⟨by kernel_rfl, ?_⟩) hH ?_
      · intro W hS
        go_simp
        try rfl
      try simp only [Act.put, List.setIfInBounds_toArray, List.set_cons_zero, List.set_cons_succ, List.getElem_toArray, List.getElem_cons_succ, List.getElem_cons_zero]
      refine wpAnyH_take (i := 12) (v := .int .u32 v) rfl (by kernel_rfl) (by kernel_rfl) (by kernel_rfl) (fun _ _ _ h => h) (Or.inl ⟨by kernel_rfl, ?_⟩) hH ?_
      · intro W hS
        go_simp
        try rfl
      try simp only [Act.put, List.setIfInBounds_toArray, List.set_cons_zero, List.set_cons_succ, List.getElem_toArray, List.getElem_cons_succ, List.getElem_cons_zero]
      refine wpAnyH_take (i := 13) (v := fltV 0 0 0 0) rfl (by kernel_rfl) (by kernel_rfl) (by kernel_rfl) (fun _ _ _ h => h) (Or.inl ⟨by kernel_rfl, ?_⟩) hH ?_
      · intro W hS
        go_simp
        try rfl
      try simp only [Act.put, List.setIfInBounds_toArray, List.set_cons_zero, List.set_cons_succ, List.getElem_toArray, List.getElem_cons_succ, List.getElem_cons_zero]
      refine wpAnyH_take (i := 14) (v := .bool true) rfl (by kernel_rfl) (by kernel_rfl) (by kernel_rfl) (fun _ _ _ h => h) (Or.inl ⟨by kernel_rfl, ?_⟩) hH ?_
      · intro W hS
        go_simp
        try rfl
      try simp only [Act.put, List.setIfInBounds_toArray, List.set_cons_zero, List.set_cons_succ, List.getElem_toArray, List.getElem_cons_succ, List.getElem_cons_zero]
      refine wpAnyH_take (i := 16) (v := .int .u32 v) rfl (by kernel_rfl) (by kernel_rfl) (by kernel_rfl) (fun _ _ _ h => h) (Or.inl ⟨by kernel_rfl, ?_⟩) hH ?_
      · intro W hS
        go_simp
        try rfl
      try simp only [Act.put, List.setIfInBounds_toArray, List.set_cons_zero, List.set_cons_succ, List.getElem_toArray, List.getElem_cons_succ, List.getElem_cons_zero]
      refine wpAnyH_ready (rs := [17]) (by kernel_rfl) (by simp) ?_
      refine AllReadyH.cons rfl (fun K hK => ?_) AllReadyH.nil
      refine want_plain rfl ?_
      refine wp_store_row _ _ _ rfl N #[.int .i64 0, .int .u32 0, .int .u32 0, .int .i64 0] rfl rfl 42 #[.int .i64 0, .int .u32 0, .int .u32 0, .int .i64 0] kF.h szF rfl (by simp [Value.oneCell']) ?_
      have bx := (But.refl [N] Wx2.heap.size Wx2).setRow (g := N) (by simp) #[.int .i64 0, .int .u32 0, .int .u32 0, .int .i64 0]
      replace kF := kF.row #[.int .i64 0, .int .u32 0, .int .u32 0, .int .i64 0]
      replace hH := And.intro (hH.1.but bx (by have := BF.out; simp; omega) (by have := gF.out; simp; omega)) (hH.2.but bx hH.2.lt (by have := mF.out; simp; omega))
      replace b0 := b0.trans (bx.below b0.size (by have := mF.out; simp; omega))
      clear bx
      generalize Wx2.setRow N #[.int .i64 0, .int .u32 0, .int .u32 0, .int .i64 0] = Wx3 at *
      refine hK.out _ _ hH (fun _ => ?_)
      clear hK K
      try simp only [Act.put, List.setIfInBounds_toArray, List.set_cons_zero, List.set_cons_succ, List.getElem_toArray, List.getElem_cons_succ, List.getElem_cons_zero]
      refine wpAnyH_take (i := 18) (v := .bool true) rfl (by kernel_rfl) (by kernel_rfl) (by kernel_rfl) (fun _ _ _ h => h) (Or.inl ⟨by kernel_rfl, ?_⟩) hH ?_
      · intro W hS
        go_simp
        try rfl
      try simp only [Act.put, List.setIfInBounds_toArray, List.set_cons_zero, List.set_cons_succ, List.getElem_toArray, List.getElem_cons_succ, List.getElem_cons_zero]
      refine wpAnyH_done (by kernel_rfl) ?_ _
      exact ⟨N, by kernel_rfl, kF, b0⟩
  rintro a' Wq ⟨N, rfl, kF, bq⟩
  simp only [Act.put, List.setIfInBounds_toArray, List.set_cons_zero, List.set_cons_succ]
  have c0 := kF.cell (i := 0) rfl
  have c1 := kF.cell (i := 1) rfl
  have c2 := kF.cell (i := 2) rfl
  have c3 := kF.cell (i := 3) rfl
  go_wp2_with ((with_reducible refine (hM.out _).mono ?_); rintro e w1 ⟨rfl, b1⟩)
  go_ret
  exact ⟨rfl, bq.trans (b1.mono bq.size)⟩
set_option maxRecDepth 20000 in
set_option maxHeartbeats 2000000 in
theorem gread_no {w : World} {G B : Nat} {g : Gs} {m : Mm} (h : GuAt w G B g m) (o : On) (n : Int) (a t : Int) (hr : ∀ W, PAt W B m → Calls Tryz.prog 197 #[mp B, stV g, opV o, .int .i64 n] W fun e w' => e = .returned (.tuple #[.int .u32 0, fltV 1 0 a t, .bool false]) ∧ Below W.heap.size W w') :
    Calls Tryz.prog 154 #[mp G, opV o, .int .i64 n] w fun e w' => e = .panicked (fltP a t) ∧ Below w.heap.size w w' := by
  have hR := Lib.hid hr
  have hM := Lib.hid (fun W => must_no 1 a t W)
  clear hr
  have b0 := (Below.refl w.heap.size w).alloc (Nat.le_refl _) (.cells (op6 o) 31)
  have kO := Blk.new w 31 (op6 o)
  have hg := h.below b0
  go_enter Tryz.func154, Tryz.ntmps154
  go_upto_region 1 with fail
  generalize w.alloc (.cells (op6 o) 31) = W0 at *
  have nO := Lib.hid (show w.heap.size < W0.heap.size from kO.lt)
  refine cut_at (fun x x' w' => ∃ N, x' = ((((((((((((((((((x.put (some 11) (mp G)).put (some 12) (mp G)).put (some 13) (mp G)).put (some 14) (mp B)).put (some 15) (mp G)).put (some 16) (mp G)).put (some 17) (.pointer (some ⟨G, 1, none⟩))).put (some 18) (stV g)).put (some 19) (opV o)).put (some 20) (.int .i64 n)).put (some 21) (.tuple #[.int .u32 0, fltV 1 0 a t, .bool false])).put (some 10) (.tuple #[.int .u32 0, fltV 1 0 a t, .bool false])).put (some 22) (.int .u32 0)).put (some 23) (fltV 1 0 a t)).put (some 24) (.bool false)).put (some 8) (.pointer (some ⟨N, 0, none⟩))).put (some 7) (.int .u32 0)).put (some 9) (.bool false)) ∧ Blk w' N 42 #[.int .i64 1, .int .u32 0, .int .u32 a, .int .i64 t] ∧ Below w.heap.size w w') ?_ ?_
  rotate_left
  · refine wp_region_held_drew (S := fun V => GuAt V G B g m ∧ Blk V w.heap.size 31 (op6 o)) (by kernel_rfl) ⟨hg.drew, kO.drew⟩ (fun hH => ?_)
    replace b0 := b0.drew
    clear hg kO h
    generalize W0.drew = W at *
    refine wpAnyH_take (i := 0) (v := ?_) rfl (by kernel_rfl) (by kernel_rfl) (by kernel_rfl) (fun _ _ _ h => h) (Or.inl ⟨by kernel_rfl, ?_⟩) hH ?_
    rotate_left
    · intro W hS
      go_simp
      try rfl
    try simp only [Act.put, List.setIfInBounds_toArray, List.set_cons_zero, List.set_cons_succ, List.getElem_toArray, List.getElem_cons_succ, List.getElem_cons_zero]
    refine wpAnyH_take (i := 1) (v := ?_) rfl (by kernel_rfl) (by kernel_rfl) (by kernel_rfl) (fun _ _ _ h => h) (Or.inl ⟨by kernel_rfl, ?_⟩) hH ?_
    rotate_left
    · intro W hS
      go_simp
      try rfl
    try simp only [Act.put, List.setIfInBounds_toArray, List.set_cons_zero, List.set_cons_succ, List.getElem_toArray, List.getElem_cons_succ, List.getElem_cons_zero]
    refine wpAnyH_take (i := 2) (v := ?_) rfl (by kernel_rfl) (by kernel_rfl) (by kernel_rfl) (fun _ _ _ h => h) (Or.inl ⟨by kernel_rfl, ?_⟩) hH ?_
    rotate_left
    · intro W hS
      go_simp
      try rfl
    try simp only [Act.put, List.setIfInBounds_toArray, List.set_cons_zero, List.set_cons_succ, List.getElem_toArray, List.getElem_cons_succ, List.getElem_cons_zero]
    refine wpAnyH_take (i := 3) (v := mp B) rfl (by kernel_rfl) (by kernel_rfl) (by kernel_rfl) (fun _ _ _ h => h) (Or.inl ⟨by kernel_rfl, ?_⟩) hH ?_
    · intro W hS
      have c1 := hS.1.c.cell (i := 0) (v := mp B) rfl
      go_simp
    try simp only [Act.put, List.setIfInBounds_toArray, List.set_cons_zero, List.set_cons_succ, List.getElem_toArray, List.getElem_cons_succ, List.getElem_cons_zero]
    refine wpAnyH_take (i := 4) (v := ?_) rfl (by kernel_rfl) (by kernel_rfl) (by kernel_rfl) (fun _ _ _ h => h) (Or.inl ⟨by kernel_rfl, ?_⟩) hH ?_
    rotate_left
    · intro W hS
      go_simp
      try rfl
    try simp only [Act.put, List.setIfInBounds_toArray, List.set_cons_zero, List.set_cons_succ, List.getElem_toArray, List.getElem_cons_succ, List.getElem_cons_zero]
    refine wpAnyH_take (i := 5) (v := ?_) rfl (by kernel_rfl) (by kernel_rfl) (by kernel_rfl) (fun _ _ _ h => h) (Or.inl ⟨by kernel_rfl, ?_⟩) hH ?_
    rotate_left
    · intro W hS
      go_simp
      try rfl
    try simp only [Act.put, List.setIfInBounds_toArray, List.set_cons_zero, List.set_cons_succ, List.getElem_toArray, List.getElem_cons_succ, List.getElem_cons_zero]
    refine wpAnyH_take (i := 6) (v := ?_) rfl (by kernel_rfl) (by kernel_rfl) (by kernel_rfl) (fun _ _ _ h => h) (Or.inl ⟨by kernel_rfl, ?_⟩) hH ?_
    rotate_left
    · intro W hS
      go_simp
      try rfl
    try simp only [Act.put, List.setIfInBounds_toArray, List.set_cons_zero, List.set_cons_succ, List.getElem_toArray, List.getElem_cons_succ, List.getElem_cons_zero]
    refine wpAnyH_take (i := 7) (v := stV g) rfl (by kernel_rfl) (by kernel_rfl) (by kernel_rfl) (fun _ _ _ h => h) (Or.inl ⟨by kernel_rfl, ?_⟩) hH ?_
    · intro W hS
      exact run_load_gst (by rfl) (by rfl) hS.1
    try simp only [Act.put, List.setIfInBounds_toArray, List.set_cons_zero, List.set_cons_succ, List.getElem_toArray, List.getElem_cons_succ, List.getElem_cons_zero]
    refine wpAnyH_take (i := 8) (v := opV o) rfl (by kernel_rfl) (by kernel_rfl) (by kernel_rfl) (fun _ _ _ h => h) (Or.inl ⟨by kernel_rfl, ?_⟩) hH ?_
    · intro W hS
      exact run_load_op (by rfl) (by rfl) hS.2
    try simp only [Act.put, List.setIfInBounds_toArray, List.set_cons_zero, List.set_cons_succ, List.getElem_toArray, List.getElem_cons_succ, List.getElem_cons_zero]
    refine wpAnyH_take (i := 9) (v := ?_) rfl (by kernel_rfl) (by kernel_rfl) (by kernel_rfl) (fun _ _ _ h => h) (Or.inl ⟨by kernel_rfl, ?_⟩) hH ?_
    rotate_left
    · intro W hS
      go_simp
      try rfl
    try simp only [Act.put, List.setIfInBounds_toArray, List.set_cons_zero, List.set_cons_succ, List.getElem_toArray, List.getElem_cons_succ, List.getElem_cons_zero]
    refine wpAnyH_ready (rs := [10, 15]) (by kernel_rfl) (by simp) ?_
    refine AllReadyH.cons rfl (fun K hK => ?_) (AllReadyH.cons rfl (fun K hK => ?_) AllReadyH.nil)
    · go_simp
      with_reducible refine (hR.out _ hH.1.p).mono ?_
      rintro e Wx1 ⟨rfl, bx⟩
      replace b0 := b0.trans (bx.mono b0.size)
      replace hH := And.intro (hH.1.below bx) (hH.2.below bx hH.2.lt)
      clear bx
      refine hK.out _ _ hH (fun _ => ?_)
      clear hK K
      try simp only [Act.put, List.setIfInBounds_toArray, List.set_cons_zero, List.set_cons_succ, List.getElem_toArray, List.getElem_cons_succ, List.getElem_cons_zero]
      refine wpAnyH_take (i := 11) (v := .tuple #[.int .u32 0, fltV 1 0 a t, .bool false]) rfl (by kernel_rfl) (by kernel_rfl) (by kernel_rfl) (fun _ _ _ h => h) (Or.inl ⟨by kernel_rfl, ?_⟩) hH ?_
      · intro W hS
        go_simp
        try rfl
      try simp only [Act.put, List.setIfInBounds_toArray, List.set_cons_zero, List.set_cons_succ, List.getElem_toArray, List.getElem_cons_succ, List.getElem_cons_zero]
      refine wpAnyH_take (i := 12) (v := .int .u32 0) rfl (by kernel_rfl) (by kernel_rfl) (by kernel_rfl) (fun _ _ _ h => h) (Or.inl ⟨by kernel_rfl, ?_⟩) hH ?_
      · intro W hS
        go_simp
        try rfl
      try simp only [Act.put, List.setIfInBounds_toArray, List.set_cons_zero, List.set_cons_succ, List.getElem_toArray, List.getElem_cons_succ, List.getElem_cons_zero]
      refine wpAnyH_take (i := 13) (v := fltV 1 0 a t) rfl (by kernel_rfl) (by kernel_rfl) (by kernel_rfl) (fun _ _ _ h => h) (Or.inl ⟨by kernel_rfl, ?_⟩) hH ?_
      · intro W hS
        go_simp
        try rfl
      try simp only [Act.put, List.setIfInBounds_toArray, List.set_cons_zero, List.set_cons_succ, List.getElem_toArray, List.getElem_cons_succ, List.getElem_cons_zero]
      refine wpAnyH_take (i := 14) (v := .bool false) rfl (by kernel_rfl) (by kernel_rfl) (by kernel_rfl) (fun _ _ _ h => h) (Or.inl ⟨by kernel_rfl, ?_⟩) hH ?_
      · intro W hS
        go_simp
        try rfl
      try simp only [Act.put, List.setIfInBounds_toArray, List.set_cons_zero, List.set_cons_succ, List.getElem_toArray, List.getElem_cons_succ, List.getElem_cons_zero]
      refine wpAnyH_ready (rs := [15]) (by kernel_rfl) (by simp) ?_
      refine AllReadyH.cons rfl (fun K hK => ?_) AllReadyH.nil
      go_simp
      have kF := Blk.new Wx1 42 #[.int .i64 0, .int .u32 0, .int .u32 0, .int .i64 0]
      have bx := (Below.refl Wx1.heap.size Wx1).alloc (Nat.le_refl _) (.cells #[.int .i64 0, .int .u32 0, .int .u32 0, .int .i64 0] 42)
      have mF := Lib.hid (show w.heap.size < Wx1.heap.size from Nat.lt_of_lt_of_le hH.2.lt (Nat.le_refl _))
      have gF := Lib.hid (show G < Wx1.heap.size from hH.1.c.lt)
      have BF := Lib.hid (show B < Wx1.heap.size from hH.1.p.lt)
      replace b0 := b0.trans (bx.mono b0.size)
      replace hH := And.intro (hH.1.below bx) (hH.2.below bx hH.2.lt)
      clear bx
      generalize Wx1.alloc (.cells #[.int .i64 0, .int .u32 0, .int .u32 0, .int .i64 0] 42) = Wx2 at *
      generalize Wx1.heap.size = N at *
      refine hK.out _ _ hH (fun _ => ?_)
      clear hK K
      try simp only [Act.put, List.setIfInBounds_toArray, List.set_cons_zero, List.set_cons_succ, List.getElem_toArray, List.getElem_cons_succ, List.getElem_cons_zero]
      refine wpAnyH_take (i := 16) (v := .int .u32 0) rfl (by kernel_rfl) (by kernel_rfl) (by kernel_rfl) (fun _ _ _ h => h) (Or.inl ⟨by kernel_rfl, ?_⟩) hH ?_
      · intro W hS
        go_simp
        try rfl
      try simp only [Act.put, List.setIfInBounds_toArray, List.set_cons_zero, List.set_cons_succ, List.getElem_toArray, List.getElem_cons_succ, List.getElem_cons_zero]
      refine wpAnyH_ready (rs := [17]) (by kernel_rfl) (by simp) ?_
      refine AllReadyH.cons rfl (fun K hK => ?_) AllReadyH.nil
      refine want_plain rfl ?_
      refine wp_store_row _ _ _ rfl N #[.int .i64 1, .int .u32 0, .int .u32 a, .int .i64 t] rfl rfl 42 #[.int .i64 0, .int .u32 0, .int .u32 0, .int .i64 0] kF.h szF rfl (by simp [Value.oneCell']) ?_
      have bx := (But.refl [N] Wx2.heap.size Wx2).setRow (g := N) (by simp) #[.int .i64 1, .int .u32 0, .int .u32 a, .int .i64 t]
      replace kF := kF.row #[.int .i64 1, .int .u32 0, .int .u32 a, .int .i64 t]
      replace hH := And.intro (hH.1.but bx (by have := BF.out; simp; omega) (by have := gF.out; simp; omega)) (hH.2.but bx hH.2.lt (by have := mF.out; simp; omega))
      replace b0 := b0.trans (bx.below b0.size (by have := mF.out; simp; omega))
      clear bx
      generalize Wx2.setRow N #[.int .i64 1, .int .u32 0, .int .u32 a, .int .i64 t] = Wx3 at *
      refine hK.out _ _ hH (fun _ => ?_)
      clear hK K
      try simp only [Act.put, List.setIfInBounds_toArray, List.set_cons_zero, List.set_cons_succ, List.getElem_toArray, List.getElem_cons_succ, List.getElem_cons_zero]
      refine wpAnyH_take (i := 18) (v := .bool false) rfl (by kernel_rfl) (by kernel_rfl) (by kernel_rfl) (fun _ _ _ h => h) (Or.inl ⟨by kernel_rfl, ?_⟩) hH ?_
      · intro W hS
        go_simp
        try rfl
      try simp only [Act.put, List.setIfInBounds_toArray, List.set_cons_zero, List.set_cons_succ, List.getElem_toArray, List.getElem_cons_succ, List.getElem_cons_zero]
      refine wpAnyH_done (by kernel_rfl) ?_ _
      exact ⟨N, by kernel_rfl, kF, b0⟩
    · go_simp
      have kF := Blk.new W 42 #[.int .i64 0, .int .u32 0, .int .u32 0, .int .i64 0]
      have bx := (Below.refl W.heap.size W).alloc (Nat.le_refl _) (.cells #[.int .i64 0, .int .u32 0, .int .u32 0, .int .i64 0] 42)
      have mF := Lib.hid (show w.heap.size < W.heap.size from Nat.lt_of_lt_of_le hH.2.lt (Nat.le_refl _))
      have gF := Lib.hid (show G < W.heap.size from hH.1.c.lt)
      have BF := Lib.hid (show B < W.heap.size from hH.1.p.lt)
      replace b0 := b0.trans (bx.mono b0.size)
      replace hH := And.intro (hH.1.below bx) (hH.2.below bx hH.2.lt)
      clear bx
      generalize W.alloc (.cells #[.int .i64 0, .int .u32 0, .int .u32 0, .int .i64 0] 42) = Wx1 at *
      generalize W.heap.size = N at *
      refine hK.out _ _ hH (fun _ => ?_)
      clear hK K
      try simp only [Act.put, List.setIfInBounds_toArray, List.set_cons_zero, List.set_cons_succ, List.getElem_toArray, List.getElem_cons_succ, List.getElem_cons_zero]
      refine wpAnyH_ready (rs := [10]) (by kernel_rfl) (by simp) ?_
      refine AllReadyH.cons rfl (fun K hK => ?_) AllReadyH.nil
      go_simp
      with_reducible refine (hR.out _ hH.1.p).mono ?_
      rintro e Wx2 ⟨rfl, bx⟩
      replace b0 := b0.trans (bx.mono b0.size)
      replace hH := And.intro (hH.1.below bx) (hH.2.below bx hH.2.lt)
      replace kF := kF.below bx kF.lt
      clear bx
      refine hK.out _ _ hH (fun _ => ?_)
      clear hK K
      try simp only [Act.put, List.setIfInBounds_toArray, List.set_cons_zero, List.set_cons_succ, List.getElem_toArray, List.getElem_cons_succ, List.getElem_cons_zero]
      refine wpAnyH_take (i := 11) (v := .tuple #[.int .u32 0, fltV 1 0 a t, .bool false]) rfl (by kernel_rfl) (by kernel_rfl) (by kernel_rfl) (fun _ _ _ h => h) (Or.inl ⟨by kernel_rfl, ?_⟩) hH ?_
      · intro W hS
        go_simp
        try rfl
      try simp only [Act.put, List.setIfInBounds_toArray, List.set_cons_zero, List.set_cons_succ, List.getElem_toArray, List.getElem_cons_succ, List.getElem_cons_zero]
      refine wpAnyH_take (i := 12) (v := .int .u32 0) rfl (by kernel_rfl) (by kernel_rfl) (by kernel_rfl) (fun _ _ _ h => h) (Or.inl ⟨by kernel_rfl, ?_⟩) hH ?_
      · intro W hS
        go_simp
        try rfl
      try simp only [Act.put, List.setIfInBounds_toArray, List.set_cons_zero, List.set_cons_succ, List.getElem_toArray, List.getElem_cons_succ, List.getElem_cons_zero]
      refine wpAnyH_take (i := 13) (v := fltV 1 0 a t) rfl (by kernel_rfl) (by kernel_rfl) (by kernel_rfl) (fun _ _ _ h => h) (Or.inl ⟨by kernel_rfl, ?_⟩) hH ?_
      · intro W hS
        go_simp
        try rfl
      try simp only [Act.put, List.setIfInBounds_toArray, List.set_cons_zero, List.set_cons_succ, List.getElem_toArray, List.getElem_cons_succ, List.getElem_cons_zero]
      refine wpAnyH_take (i := 14) (v := .bool false) rfl (by kernel_rfl) (by kernel_rfl) (by kernel_rfl) (fun _ _ _ h => h) (Or.inl ⟨by kernel_rfl, ?_⟩) hH ?_
      · intro W hS
        go_simp
        try rfl
      try simp only [Act.put, List.setIfInBounds_toArray, List.set_cons_zero, List.set_cons_succ, List.getElem_toArray, List.getElem_cons_succ, List.getElem_cons_zero]
      refine wpAnyH_take (i := 16) (v := .int .u32 0) rfl (by kernel_rfl) (by kernel_rfl) (by kernel_rfl) (fun _ _ _ h => h) (Or.inl ⟨by kernel_rfl, ?_⟩) hH ?_
      · intro W hS
        go_simp
        try rfl
      try simp only [Act.put, List.setIfInBounds_toArray, List.set_cons_zero, List.set_cons_succ, List.getElem_toArray, List.getElem_cons_succ, List.getElem_cons_zero]
      refine wpAnyH_ready (rs := [17]) (by kernel_rfl) (by simp) ?_
      refine AllReadyH.cons rfl (fun K hK => ?_) AllReadyH.nil
      refine want_plain rfl ?_
      refine wp_store_row _ _ _ rfl N #[.int .i64 1, .int .u32 0, .int .u32 a, .int .i64 t] rfl rfl 42 #[.int .i64 0, .int .u32 0, .int .u32 0, .int .i64 0] kF.h szF rfl (by simp [Value.oneCell']) ?_
      have bx := (But.refl [N] Wx2.heap.size Wx2).setRow (g := N) (by simp) #[.int .i64 1, .int .u32 0, .int .u32 a, .int .i64 t]
      replace kF := kF.row #[.int .i64 1, .int .u32 0, .int .u32 a, .int .i64 t]
      replace hH := And.intro (hH.1.but bx (by have := BF.out; simp; omega) (by have := gF.out; simp; omega)) (hH.2.but bx hH.2.lt (by have := mF.out; simp; omega))
      replace b0 := b0.trans (bx.below b0.size (by have := mF.out; simp; omega))
      clear bx
      generalize Wx2.setRow N #[.int .i64 1, .int .u32 0, .int .u32 a, .int .i64 t] = Wx3 at *
      refine hK.out _ _ hH (fun _ => ?_)
      clear hK K
      try simp only [Act.put, List.setIfInBounds_toArray, List.set_cons_zero, List.set_cons_succ, List.getElem_toArray, List.getElem_cons_succ, List.getElem_cons_zero]
      refine wpAnyH_take (i := 18) (v := .bool false) rfl (by kernel_rfl) (by kernel_rfl) (by kernel_rfl) (fun _ _ _ h => h) (Or.inl ⟨by kernel_rfl, ?_⟩) hH ?_
      · intro W hS
        go_simp
        try rfl
      try simp only [Act.put, List.setIfInBounds_toArray, List.set_cons_zero, List.set_cons_succ, List.getElem_toArray, List.getElem_cons_succ, List.getElem_cons_zero]
      refine wpAnyH_done (by kernel_rfl) ?_ _
      exact ⟨N, by kernel_rfl, kF, b0⟩
  rintro a' Wq ⟨N, rfl, kF, bq⟩
  simp only [Act.put, List.setIfInBounds_toArray, List.set_cons_zero, List.set_cons_succ]
  have c0 := kF.cell (i := 0) rfl
  have c1 := kF.cell (i := 1) rfl
  have c2 := kF.cell (i := 2) rfl
  have c3 := kF.cell (i := 3) rfl
  go_wp2_with ((with_reducible refine (hM.out _).mono ?_); rintro e w1 ⟨rfl, b1⟩)
  exact ⟨rfl, rfl, bq.trans (b1.mono bq.size)⟩
set_option maxRecDepth 20000 in
set_option maxHeartbeats 20000000 in
theorem gwrite_yes {w : World} {G B : Nat} {g : Gs} {m : Mm} (h : GuAt w G B g m) (o : On) (n v : Int) (g' : Gs) (m' : Mm) (hr : ∀ W, PAt W B m → Calls Tryz.prog 196 #[mp B, stV g, opV o, .int .i64 n, .int .u32 v] W fun e w' => e = .returned (.tuple #[stV g', fltV 0 0 0 0, .bool true]) ∧ PAt w' B m' ∧ But [B] W.heap.size W w') :
    Calls Tryz.prog 153 #[mp G, opV o, .int .i64 n, .int .u32 v] w fun e w' => e = .returned (.tuple #[]) ∧ GuAt w' G B g' m' ∧ But [G, B] w.heap.size w w' := by
  have hR := Lib.hid hr
  have hM := Lib.hid (fun W => must_yes 0 0 0 W)
  clear hr
  have b0 := (Below.refl w.heap.size w).alloc (Nat.le_refl _) (.cells (op6 o) 31)
  have kO := Blk.new w 31 (op6 o)
  have hg := h.below b0
  have nB := Lib.hid (show B < w.heap.size from h.p.lt)
  have nG := Lib.hid (show G < w.heap.size from h.c.lt)
  go_enter Tryz.func153, Tryz.ntmps153
  go_upto_region 1 with fail
  generalize w.alloc (.cells (op6 o) 31) = W0 at *
  replace b0 := But.of b0 [G, B]
  refine cut_at (fun x x' w' => ∃ N1 N2, x' = (((((((((((((((((((x.put (some 12) (mp G)).put (some 13) (mp G)).put (some 14) (mp G)).put (some 15) (mp B)).put (some 16) (mp G)).put (some 17) (mp G)).put (some 18) (.pointer (some ⟨G, 1, none⟩))).put (some 19) (stV g)).put (some 20) (opV o)).put (some 21) (.int .i64 n)).put (some 22) (.int .u32 v)).put (some 23) (.tuple #[stV g', fltV 0 0 0 0, .bool true])).put (some 11) (.tuple #[stV g', fltV 0 0 0 0, .bool true])).put (some 24) (stV g')).put (some 25) (fltV 0 0 0 0)).put (some 26) (.bool true)).put (some 8) (.pointer (some ⟨N1, 0, none⟩))).put (some 9) (.pointer (some ⟨N2, 0, none⟩))).put (some 10) (.bool true)) ∧ Blk w' N1 29 (stA g') ∧ Blk w' N2 42 #[.int .i64 0, .int .u32 0, .int .u32 0, .int .i64 0] ∧ GuAt w' G B g m' ∧ But [G, B] w.heap.size w w' ∧ G < N1 ∧ G < N2) ?_ ?_
  rotate_left
  · refine wp_region_held_drew (S := fun V => (∃ mm, GuAt V G B g mm) ∧ Blk V w.heap.size 31 (op6 o)) (by kernel_rfl) ⟨⟨m, hg.drew⟩, kO.drew⟩ (fun hH => ?_)
    replace b0 := b0.drew
    have hG := hg.drew
    clear kO h hg
    generalize W0.drew = W at *
    refine wpAnyH_take (i := 0) (v := ?_) rfl (by kernel_rfl) (by kernel_rfl) (by kernel_rfl) (fun _ _ _ h => h) (Or.inl ⟨by kernel_rfl, ?_⟩) hH ?_
    rotate_left
    · intro W hS
      go_simp
      try rfl
    try simp only [Act.put, List.setIfInBounds_toArray, List.set_cons_zero, List.set_cons_succ, List.getElem_toArray, List.getElem_cons_succ, List.getElem_cons_zero]
    refine wpAnyH_take (i := 1) (v := ?_) rfl (by kernel_rfl) (by kernel_rfl) (by kernel_rfl) (fun _ _ _ h => h) (Or.inl ⟨by kernel_rfl, ?_⟩) hH ?_
    rotate_left
    · intro W hS
      go_simp
      try rfl
    try simp only [Act.put, List.setIfInBounds_toArray, List.set_cons_zero, List.set_cons_succ, List.getElem_toArray, List.getElem_cons_succ, List.getElem_cons_zero]
    refine wpAnyH_take (i := 2) (v := ?_) rfl (by kernel_rfl) (by kernel_rfl) (by kernel_rfl) (fun _ _ _ h => h) (Or.inl ⟨by kernel_rfl, ?_⟩) hH ?_
    rotate_left
    · intro W hS
      go_simp
      try rfl
    try simp only [Act.put, List.setIfInBounds_toArray, List.set_cons_zero, List.set_cons_succ, List.getElem_toArray, List.getElem_cons_succ, List.getElem_cons_zero]
    refine wpAnyH_take (i := 3) (v := mp B) rfl (by kernel_rfl) (by kernel_rfl) (by kernel_rfl) (fun _ _ _ h => h) (Or.inl ⟨by kernel_rfl, ?_⟩) hH ?_
    · intro W hS
      obtain ⟨⟨mm, hm⟩, -⟩ := hS
      have c1 := hm.c.cell (i := 0) (v := mp B) rfl
      go_simp
    try simp only [Act.put, List.setIfInBounds_toArray, List.set_cons_zero, List.set_cons_succ, List.getElem_toArray, List.getElem_cons_succ, List.getElem_cons_zero]
    refine wpAnyH_take (i := 4) (v := ?_) rfl (by kernel_rfl) (by kernel_rfl) (by kernel_rfl) (fun _ _ _ h => h) (Or.inl ⟨by kernel_rfl, ?_⟩) hH ?_
    rotate_left
    · intro W hS
      go_simp
      try rfl
    try simp only [Act.put, List.setIfInBounds_toArray, List.set_cons_zero, List.set_cons_succ, List.getElem_toArray, List.getElem_cons_succ, List.getElem_cons_zero]
    refine wpAnyH_take (i := 5) (v := ?_) rfl (by kernel_rfl) (by kernel_rfl) (by kernel_rfl) (fun _ _ _ h => h) (Or.inl ⟨by kernel_rfl, ?_⟩) hH ?_
    rotate_left
    · intro W hS
      go_simp
      try rfl
    try simp only [Act.put, List.setIfInBounds_toArray, List.set_cons_zero, List.set_cons_succ, List.getElem_toArray, List.getElem_cons_succ, List.getElem_cons_zero]
    refine wpAnyH_take (i := 6) (v := ?_) rfl (by kernel_rfl) (by kernel_rfl) (by kernel_rfl) (fun _ _ _ h => h) (Or.inl ⟨by kernel_rfl, ?_⟩) hH ?_
    rotate_left
    · intro W hS
      go_simp
      try rfl
    try simp only [Act.put, List.setIfInBounds_toArray, List.set_cons_zero, List.set_cons_succ, List.getElem_toArray, List.getElem_cons_succ, List.getElem_cons_zero]
    refine wpAnyH_take (i := 7) (v := stV g) rfl (by kernel_rfl) (by kernel_rfl) (by kernel_rfl) (fun _ _ _ h => h) (Or.inl ⟨by kernel_rfl, ?_⟩) hH ?_
    · intro W hS
      obtain ⟨⟨mm, hm⟩, -⟩ := hS
      exact run_load_gst (by rfl) (by rfl) hm
    try simp only [Act.put, List.setIfInBounds_toArray, List.set_cons_zero, List.set_cons_succ, List.getElem_toArray, List.getElem_cons_succ, List.getElem_cons_zero]
    refine wpAnyH_take (i := 8) (v := opV o) rfl (by kernel_rfl) (by kernel_rfl) (by kernel_rfl) (fun _ _ _ h => h) (Or.inl ⟨by kernel_rfl, ?_⟩) hH ?_
    · intro W hS
      exact run_load_op (by rfl) (by rfl) hS.2
    try simp only [Act.put, List.setIfInBounds_toArray, List.set_cons_zero, List.set_cons_succ, List.getElem_toArray, List.getElem_cons_succ, List.getElem_cons_zero]
    refine wpAnyH_take (i := 9) (v := ?_) rfl (by kernel_rfl) (by kernel_rfl) (by kernel_rfl) (fun _ _ _ h => h) (Or.inl ⟨by kernel_rfl, ?_⟩) hH ?_
    rotate_left
    · intro W hS
      go_simp
      try rfl
    try simp only [Act.put, List.setIfInBounds_toArray, List.set_cons_zero, List.set_cons_succ, List.getElem_toArray, List.getElem_cons_succ, List.getElem_cons_zero]
    refine wpAnyH_take (i := 10) (v := ?_) rfl (by kernel_rfl) (by kernel_rfl) (by kernel_rfl) (fun _ _ _ h => h) (Or.inl ⟨by kernel_rfl, ?_⟩) hH ?_
    rotate_left
    · intro W hS
      go_simp
      try rfl
    try simp only [Act.put, List.setIfInBounds_toArray, List.set_cons_zero, List.set_cons_succ, List.getElem_toArray, List.getElem_cons_succ, List.getElem_cons_zero]
    refine wpAnyH_ready (rs := [11, 16, 17]) (by kernel_rfl) (by simp) ?_
    refine AllReadyH.cons rfl (fun K hK => ?_) (AllReadyH.cons rfl (fun K hK => ?_) (AllReadyH.cons rfl (fun K hK => ?_) AllReadyH.nil))
    · go_simp
      with_reducible refine (hR.out _ hG.p).mono ?_
      rintro e Wx1 ⟨rfl, px, bx⟩
      replace b0 := b0.trans (bx.mono (S' := [G, B]) b0.size (fun k hk => .inl (by simp at hk ⊢; omega)))
      replace hG := hG.mem px bx
      replace hH := And.intro (Exists.intro _ hG) (hH.2.but bx hH.2.lt (by have := nB.out; simp; omega))
      clear bx px
      refine hK.out _ _ hH (fun _ => ?_)
      clear hK K
      try simp only [Act.put, List.setIfInBounds_toArray, List.set_cons_zero, List.set_cons_succ, List.getElem_toArray, List.getElem_cons_succ, List.getElem_cons_zero]
      refine wpAnyH_take (i := 12) (v := .tuple #[stV g', fltV 0 0 0 0, .bool true]) rfl (by kernel_rfl) (by kernel_rfl) (by kernel_rfl) (fun _ _ _ h => h) (Or.inl ⟨by kernel_rfl, ?_⟩) hH ?_
      · intro W hS
        go_simp
        try rfl
      try simp only [Act.put, List.setIfInBounds_toArray, List.set_cons_zero, List.set_cons_succ, List.getElem_toArray, List.getElem_cons_succ, List.getElem_cons_zero]
      refine wpAnyH_take (i := 13) (v := stV g') rfl (by kernel_rfl) (by kernel_rfl) (by kernel_rfl) (fun _ _ _ h => h) (Or.inl ⟨by kernel_rfl, ?_⟩) hH ?_
      · intro W hS
        go_simp
        try rfl
      try simp only [Act.put, List.setIfInBounds_toArray, List.set_cons_zero, List.set_cons_succ, List.getElem_toArray, List.getElem_cons_succ, List.getElem_cons_zero]
      refine wpAnyH_take (i := 14) (v := fltV 0 0 0 0) rfl (by kernel_rfl) (by kernel_rfl) (by kernel_rfl) (fun _ _ _ h => h) (Or.inl ⟨by kernel_rfl, ?_⟩) hH ?_
      · intro W hS
        go_simp
        try rfl
      try simp only [Act.put, List.setIfInBounds_toArray, List.set_cons_zero, List.set_cons_succ, List.getElem_toArray, List.getElem_cons_succ, List.getElem_cons_zero]
      refine wpAnyH_take (i := 15) (v := .bool true) rfl (by kernel_rfl) (by kernel_rfl) (by kernel_rfl) (fun _ _ _ h => h) (Or.inl ⟨by kernel_rfl, ?_⟩) hH ?_
      · intro W hS
        go_simp
        try rfl
      try simp only [Act.put, List.setIfInBounds_toArray, List.set_cons_zero, List.set_cons_succ, List.getElem_toArray, List.getElem_cons_succ, List.getElem_cons_zero]
      refine wpAnyH_ready (rs := [16, 17]) (by kernel_rfl) (by simp) ?_
      refine AllReadyH.cons rfl (fun K hK => ?_) (AllReadyH.cons rfl (fun K hK => ?_) AllReadyH.nil)
      · go_simp
        have kU := Blk.new Wx1 29 #[.int .u32 0, .int .u32 0, .int .u32 0, .int .u32 0, .int .u32 0, .int .u32 0, .int .u32 0, .int .u32 0, .int .u32 0, .bool false, .bool false, .bool false, .bool false, .bool false, .bool false, .bool false, .int .u64 0]
        have bx := (Below.refl Wx1.heap.size Wx1).alloc (Nat.le_refl _) (.cells #[.int .u32 0, .int .u32 0, .int .u32 0, .int .u32 0, .int .u32 0, .int .u32 0, .int .u32 0, .int .u32 0, .int .u32 0, .bool false, .bool false, .bool false, .bool false, .bool false, .bool false, .bool false, .int .u64 0] 29)
        have mkU := Lib.hid (show w.heap.size < Wx1.heap.size from Nat.lt_of_lt_of_le hH.2.lt (Nat.le_refl _))
        have nkU := Lib.hid (show B < Wx1.heap.size from hG.p.lt)
        have gkU := Lib.hid (show G < Wx1.heap.size from hG.c.lt)
        replace b0 := b0.trans (But.of (bx.mono b0.size) _)
        replace hG := hG.below bx
        replace hH := And.intro (Exists.intro _ hG) (hH.2.below bx hH.2.lt)
        clear bx
        generalize Wx1.alloc (.cells #[.int .u32 0, .int .u32 0, .int .u32 0, .int .u32 0, .int .u32 0, .int .u32 0, .int .u32 0, .int .u32 0, .int .u32 0, .bool false, .bool false, .bool false, .bool false, .bool false, .bool false, .bool false, .int .u64 0] 29) = Wx2 at *
        generalize Wx1.heap.size = N1 at *
        refine hK.out _ _ hH (fun _ => ?_)
        clear hK K
        try simp only [Act.put, List.setIfInBounds_toArray, List.set_cons_zero, List.set_cons_succ, List.getElem_toArray, List.getElem_cons_succ, List.getElem_cons_zero]
        refine wpAnyH_ready (rs := [17]) (by kernel_rfl) (by simp) ?_
        refine AllReadyH.cons rfl (fun K hK => ?_) AllReadyH.nil
        go_simp
        have kF := Blk.new Wx2 42 #[.int .i64 0, .int .u32 0, .int .u32 0, .int .i64 0]
        have bx := (Below.refl Wx2.heap.size Wx2).alloc (Nat.le_refl _) (.cells #[.int .i64 0, .int .u32 0, .int .u32 0, .int .i64 0] 42)
        have mkF := Lib.hid (show w.heap.size < Wx2.heap.size from Nat.lt_of_lt_of_le hH.2.lt (Nat.le_refl _))
        have nkF := Lib.hid (show B < Wx2.heap.size from hG.p.lt)
        have gkF := Lib.hid (show G < Wx2.heap.size from hG.c.lt)
        have uf := Lib.hid (show N1 ≠ Wx2.heap.size from Nat.ne_of_lt kU.lt)
        replace b0 := b0.trans (But.of (bx.mono b0.size) _)
        replace hG := hG.below bx
        replace hH := And.intro (Exists.intro _ hG) (hH.2.below bx hH.2.lt)
        replace kU := kU.below bx kU.lt
        clear bx
        generalize Wx2.alloc (.cells #[.int .i64 0, .int .u32 0, .int .u32 0, .int .i64 0] 42) = Wx3 at *
        generalize Wx2.heap.size = N2 at *
        refine hK.out _ _ hH (fun _ => ?_)
        clear hK K
        try simp only [Act.put, List.setIfInBounds_toArray, List.set_cons_zero, List.set_cons_succ, List.getElem_toArray, List.getElem_cons_succ, List.getElem_cons_zero]
        refine wpAnyH_ready (rs := [18]) (by kernel_rfl) (by simp) ?_
        refine AllReadyH.cons rfl (fun K hK => ?_) AllReadyH.nil
        refine want_plain rfl ?_
        refine wp_store_row _ _ _ rfl N1 (stA g') rfl rfl 29 #[.int .u32 0, .int .u32 0, .int .u32 0, .int .u32 0, .int .u32 0, .int .u32 0, .int .u32 0, .int .u32 0, .int .u32 0, .bool false, .bool false, .bool false, .bool false, .bool false, .bool false, .bool false, .int .u64 0] kU.h szS rfl (stA_oneT _) ?_
        have bx := (But.refl [N1] Wx3.heap.size Wx3).setRow (g := N1) (by simp) (stA g')
        replace kU := kU.row (stA g')
        replace kF := kF.but bx kF.lt (by have := uf.out; simp; omega)
        replace hG := hG.but bx (by have := nkU.out; simp; omega) (by have := gkU.out; simp; omega)
        replace hH := And.intro (Exists.intro _ hG) (hH.2.but bx hH.2.lt (by have := mkU.out; simp; omega))
        replace b0 := b0.trans (But.of (bx.below b0.size (by have := mkU.out; simp; omega)) _)
        clear bx
        generalize Wx3.setRow N1 (stA g') = Wx4 at *
        refine hK.out _ _ hH (fun _ => ?_)
        clear hK K
        try simp only [Act.put, List.setIfInBounds_toArray, List.set_cons_zero, List.set_cons_succ, List.getElem_toArray, List.getElem_cons_succ, List.getElem_cons_zero]
        refine wpAnyH_ready (rs := [19]) (by kernel_rfl) (by simp) ?_
        refine AllReadyH.cons rfl (fun K hK => ?_) AllReadyH.nil
        refine want_plain rfl ?_
        refine wp_store_row _ _ _ rfl N2 #[.int .i64 0, .int .u32 0, .int .u32 0, .int .i64 0] rfl rfl 42 #[.int .i64 0, .int .u32 0, .int .u32 0, .int .i64 0] kF.h szF rfl (by simp [Value.oneCell']) ?_
        have bx := (But.refl [N2] Wx4.heap.size Wx4).setRow (g := N2) (by simp) #[.int .i64 0, .int .u32 0, .int .u32 0, .int .i64 0]
        replace kF := kF.row #[.int .i64 0, .int .u32 0, .int .u32 0, .int .i64 0]
        replace kU := kU.but bx kU.lt (by have := uf.out; simp; omega)
        replace hG := hG.but bx (by have := nkF.out; simp; omega) (by have := gkF.out; simp; omega)
        replace hH := And.intro (Exists.intro _ hG) (hH.2.but bx hH.2.lt (by have := mkF.out; simp; omega))
        replace b0 := b0.trans (But.of (bx.below b0.size (by have := mkF.out; simp; omega)) _)
        clear bx
        generalize Wx4.setRow N2 #[.int .i64 0, .int .u32 0, .int .u32 0, .int .i64 0] = Wx5 at *
        refine hK.out _ _ hH (fun _ => ?_)
        clear hK K
        try simp only [Act.put, List.setIfInBounds_toArray, List.set_cons_zero, List.set_cons_succ, List.getElem_toArray, List.getElem_cons_succ, List.getElem_cons_zero]
        refine wpAnyH_take (i := 20) (v := .bool true) rfl (by kernel_rfl) (by kernel_rfl) (by kernel_rfl) (fun _ _ _ h => h) (Or.inl ⟨by kernel_rfl, ?_⟩) hH ?_
        · intro W hS
          go_simp
          try rfl
        try simp only [Act.put, List.setIfInBounds_toArray, List.set_cons_zero, List.set_cons_succ, List.getElem_toArray, List.getElem_cons_succ, List.getElem_cons_zero]
        refine wpAnyH_done (by kernel_rfl) ?_ _
        exact ⟨N1, N2, by kernel_rfl, kU, kF, hG, b0, gkU.out, gkF.out⟩
      · go_simp
        have kF := Blk.new Wx1 42 #[.int .i64 0, .int .u32 0, .int .u32 0, .int .i64 0]
        have bx := (Below.refl Wx1.heap.size Wx1).alloc (Nat.le_refl _) (.cells #[.int .i64 0, .int .u32 0, .int .u32 0, .int .i64 0] 42)
        have mkF := Lib.hid (show w.heap.size < Wx1.heap.size from Nat.lt_of_lt_of_le hH.2.lt (Nat.le_refl _))
        have nkF := Lib.hid (show B < Wx1.heap.size from hG.p.lt)
        have gkF := Lib.hid (show G < Wx1.heap.size from hG.c.lt)
        replace b0 := b0.trans (But.of (bx.mono b0.size) _)
        replace hG := hG.below bx
        replace hH := And.intro (Exists.intro _ hG) (hH.2.below bx hH.2.lt)
        clear bx
        generalize Wx1.alloc (.cells #[.int .i64 0, .int .u32 0, .int .u32 0, .int .i64 0] 42) = Wx2 at *
        generalize Wx1.heap.size = N2 at *
        refine hK.out _ _ hH (fun _ => ?_)
        clear hK K
        try simp only [Act.put, List.setIfInBounds_toArray, List.set_cons_zero, List.set_cons_succ, List.getElem_toArray, List.getElem_cons_succ, List.getElem_cons_zero]
        refine wpAnyH_ready (rs := [16]) (by kernel_rfl) (by simp) ?_
        refine AllReadyH.cons rfl (fun K hK => ?_) AllReadyH.nil
        go_simp
        have kU := Blk.new Wx2 29 #[.int .u32 0, .int .u32 0, .int .u32 0, .int .u32 0, .int .u32 0, .int .u32 0, .int .u32 0, .int .u32 0, .int .u32 0, .bool false, .bool false, .bool false, .bool false, .bool false, .bool false, .bool false, .int .u64 0]
        have bx := (Below.refl Wx2.heap.size Wx2).alloc (Nat.le_refl _) (.cells #[.int .u32 0, .int .u32 0, .int .u32 0, .int .u32 0, .int .u32 0, .int .u32 0, .int .u32 0, .int .u32 0, .int .u32 0, .bool false, .bool false, .bool false, .bool false, .bool false, .bool false, .bool false, .int .u64 0] 29)
        have mkU := Lib.hid (show w.heap.size < Wx2.heap.size from Nat.lt_of_lt_of_le hH.2.lt (Nat.le_refl _))
        have nkU := Lib.hid (show B < Wx2.heap.size from hG.p.lt)
        have gkU := Lib.hid (show G < Wx2.heap.size from hG.c.lt)
        have uf := Lib.hid (show N2 ≠ Wx2.heap.size from Nat.ne_of_lt kF.lt)
        replace b0 := b0.trans (But.of (bx.mono b0.size) _)
        replace hG := hG.below bx
        replace hH := And.intro (Exists.intro _ hG) (hH.2.below bx hH.2.lt)
        replace kF := kF.below bx kF.lt
        clear bx
        generalize Wx2.alloc (.cells #[.int .u32 0, .int .u32 0, .int .u32 0, .int .u32 0, .int .u32 0, .int .u32 0, .int .u32 0, .int .u32 0, .int .u32 0, .bool false, .bool false, .bool false, .bool false, .bool false, .bool false, .bool false, .int .u64 0] 29) = Wx3 at *
        generalize Wx2.heap.size = N1 at *
        refine hK.out _ _ hH (fun _ => ?_)
        clear hK K
        try simp only [Act.put, List.setIfInBounds_toArray, List.set_cons_zero, List.set_cons_succ, List.getElem_toArray, List.getElem_cons_succ, List.getElem_cons_zero]
        refine wpAnyH_ready (rs := [18]) (by kernel_rfl) (by simp) ?_
        refine AllReadyH.cons rfl (fun K hK => ?_) AllReadyH.nil
        refine want_plain rfl ?_
        refine wp_store_row _ _ _ rfl N1 (stA g') rfl rfl 29 #[.int .u32 0, .int .u32 0, .int .u32 0, .int .u32 0, .int .u32 0, .int .u32 0, .int .u32 0, .int .u32 0, .int .u32 0, .bool false, .bool false, .bool false, .bool false, .bool false, .bool false, .bool false, .int .u64 0] kU.h szS rfl (stA_oneT _) ?_
        have bx := (But.refl [N1] Wx3.heap.size Wx3).setRow (g := N1) (by simp) (stA g')
        replace kU := kU.row (stA g')
        replace kF := kF.but bx kF.lt (by have := uf.out; simp; omega)
        replace hG := hG.but bx (by have := nkU.out; simp; omega) (by have := gkU.out; simp; omega)
        replace hH := And.intro (Exists.intro _ hG) (hH.2.but bx hH.2.lt (by have := mkU.out; simp; omega))
        replace b0 := b0.trans (But.of (bx.below b0.size (by have := mkU.out; simp; omega)) _)
        clear bx
        generalize Wx3.setRow N1 (stA g') = Wx4 at *
        refine hK.out _ _ hH (fun _ => ?_)
        clear hK K
        try simp only [Act.put, List.setIfInBounds_toArray, List.set_cons_zero, List.set_cons_succ, List.getElem_toArray, List.getElem_cons_succ, List.getElem_cons_zero]
        refine wpAnyH_ready (rs := [19]) (by kernel_rfl) (by simp) ?_
        refine AllReadyH.cons rfl (fun K hK => ?_) AllReadyH.nil
        refine want_plain rfl ?_
        refine wp_store_row _ _ _ rfl N2 #[.int .i64 0, .int .u32 0, .int .u32 0, .int .i64 0] rfl rfl 42 #[.int .i64 0, .int .u32 0, .int .u32 0, .int .i64 0] kF.h szF rfl (by simp [Value.oneCell']) ?_
        have bx := (But.refl [N2] Wx4.heap.size Wx4).setRow (g := N2) (by simp) #[.int .i64 0, .int .u32 0, .int .u32 0, .int .i64 0]
        replace kF := kF.row #[.int .i64 0, .int .u32 0, .int .u32 0, .int .i64 0]
        replace kU := kU.but bx kU.lt (by have := uf.out; simp; omega)
        replace hG := hG.but bx (by have := nkF.out; simp; omega) (by have := gkF.out; simp; omega)
        replace hH := And.intro (Exists.intro _ hG) (hH.2.but bx hH.2.lt (by have := mkF.out; simp; omega))
        replace b0 := b0.trans (But.of (bx.below b0.size (by have := mkF.out; simp; omega)) _)
        clear bx
        generalize Wx4.setRow N2 #[.int .i64 0, .int .u32 0, .int .u32 0, .int .i64 0] = Wx5 at *
        refine hK.out _ _ hH (fun _ => ?_)
        clear hK K
        try simp only [Act.put, List.setIfInBounds_toArray, List.set_cons_zero, List.set_cons_succ, List.getElem_toArray, List.getElem_cons_succ, List.getElem_cons_zero]
        refine wpAnyH_take (i := 20) (v := .bool true) rfl (by kernel_rfl) (by kernel_rfl) (by kernel_rfl) (fun _ _ _ h => h) (Or.inl ⟨by kernel_rfl, ?_⟩) hH ?_
        · intro W hS
          go_simp
          try rfl
        try simp only [Act.put, List.setIfInBounds_toArray, List.set_cons_zero, List.set_cons_succ, List.getElem_toArray, List.getElem_cons_succ, List.getElem_cons_zero]
        refine wpAnyH_done (by kernel_rfl) ?_ _
        exact ⟨N1, N2, by kernel_rfl, kU, kF, hG, b0, gkU.out, gkF.out⟩
    · go_simp
      have kU := Blk.new W 29 #[.int .u32 0, .int .u32 0, .int .u32 0, .int .u32 0, .int .u32 0, .int .u32 0, .int .u32 0, .int .u32 0, .int .u32 0, .bool false, .bool false, .bool false, .bool false, .bool false, .bool false, .bool false, .int .u64 0]
      have bx := (Below.refl W.heap.size W).alloc (Nat.le_refl _) (.cells #[.int .u32 0, .int .u32 0, .int .u32 0, .int .u32 0, .int .u32 0, .int .u32 0, .int .u32 0, .int .u32 0, .int .u32 0, .bool false, .bool false, .bool false, .bool false, .bool false, .bool false, .bool false, .int .u64 0] 29)
      have mkU := Lib.hid (show w.heap.size < W.heap.size from Nat.lt_of_lt_of_le hH.2.lt (Nat.le_refl _))
      have nkU := Lib.hid (show B < W.heap.size from hG.p.lt)
      have gkU := Lib.hid (show G < W.heap.size from hG.c.lt)
      replace b0 := b0.trans (But.of (bx.mono b0.size) _)
      replace hG := hG.below bx
      replace hH := And.intro (Exists.intro _ hG) (hH.2.below bx hH.2.lt)
      clear bx
      generalize W.alloc (.cells #[.int .u32 0, .int .u32 0, .int .u32 0, .int .u32 0, .int .u32 0, .int .u32 0, .int .u32 0, .int .u32 0, .int .u32 0, .bool false, .bool false, .bool false, .bool false, .bool false, .bool false, .bool false, .int .u64 0] 29) = Wx1 at *
      generalize W.heap.size = N1 at *
      refine hK.out _ _ hH (fun _ => ?_)
      clear hK K
      try simp only [Act.put, List.setIfInBounds_toArray, List.set_cons_zero, List.set_cons_succ, List.getElem_toArray, List.getElem_cons_succ, List.getElem_cons_zero]
      refine wpAnyH_ready (rs := [11, 17]) (by kernel_rfl) (by simp) ?_
      refine AllReadyH.cons rfl (fun K hK => ?_) (AllReadyH.cons rfl (fun K hK => ?_) AllReadyH.nil)
      · go_simp
        with_reducible refine (hR.out _ hG.p).mono ?_
        rintro e Wx2 ⟨rfl, px, bx⟩
        replace b0 := b0.trans (bx.mono (S' := [G, B]) b0.size (fun k hk => .inl (by simp at hk ⊢; omega)))
        replace hG := hG.mem px bx
        replace hH := And.intro (Exists.intro _ hG) (hH.2.but bx hH.2.lt (by have := nB.out; simp; omega))
        replace kU := kU.but bx kU.lt (by have := nkU.out; simp; omega)
        clear bx px
        refine hK.out _ _ hH (fun _ => ?_)
        clear hK K
        try simp only [Act.put, List.setIfInBounds_toArray, List.set_cons_zero, List.set_cons_succ, List.getElem_toArray, List.getElem_cons_succ, List.getElem_cons_zero]
        refine wpAnyH_take (i := 12) (v := .tuple #[stV g', fltV 0 0 0 0, .bool true]) rfl (by kernel_rfl) (by kernel_rfl) (by kernel_rfl) (fun _ _ _ h => h) (Or.inl ⟨by kernel_rfl, ?_⟩) hH ?_
        · intro W hS
          go_simp
          try rfl
        try simp only [Act.put, List.setIfInBounds_toArray, List.set_cons_zero, List.set_cons_succ, List.getElem_toArray, List.getElem_cons_succ, List.getElem_cons_zero]
        refine wpAnyH_take (i := 13) (v := stV g') rfl (by kernel_rfl) (by kernel_rfl) (by kernel_rfl) (fun _ _ _ h => h) (Or.inl ⟨by kernel_rfl, ?_⟩) hH ?_
        · intro W hS
          go_simp
          try rfl
        try simp only [Act.put, List.setIfInBounds_toArray, List.set_cons_zero, List.set_cons_succ, List.getElem_toArray, List.getElem_cons_succ, List.getElem_cons_zero]
        refine wpAnyH_take (i := 14) (v := fltV 0 0 0 0) rfl (by kernel_rfl) (by kernel_rfl) (by kernel_rfl) (fun _ _ _ h => h) (Or.inl ⟨by kernel_rfl, ?_⟩) hH ?_
        · intro W hS
          go_simp
          try rfl
        try simp only [Act.put, List.setIfInBounds_toArray, List.set_cons_zero, List.set_cons_succ, List.getElem_toArray, List.getElem_cons_succ, List.getElem_cons_zero]
        refine wpAnyH_take (i := 15) (v := .bool true) rfl (by kernel_rfl) (by kernel_rfl) (by kernel_rfl) (fun _ _ _ h => h) (Or.inl ⟨by kernel_rfl, ?_⟩) hH ?_
        · intro W hS
          go_simp
          try rfl
        try simp only [Act.put, List.setIfInBounds_toArray, List.set_cons_zero, List.set_cons_succ, List.getElem_toArray, List.getElem_cons_succ, List.getElem_cons_zero]
        refine wpAnyH_ready (rs := [17]) (by kernel_rfl) (by simp) ?_
        refine AllReadyH.cons rfl (fun K hK => ?_) AllReadyH.nil
        go_simp
        have kF := Blk.new Wx2 42 #[.int .i64 0, .int .u32 0, .int .u32 0, .int .i64 0]
        have bx := (Below.refl Wx2.heap.size Wx2).alloc (Nat.le_refl _) (.cells #[.int .i64 0, .int .u32 0, .int .u32 0, .int .i64 0] 42)
        have mkF := Lib.hid (show w.heap.size < Wx2.heap.size from Nat.lt_of_lt_of_le hH.2.lt (Nat.le_refl _))
        have nkF := Lib.hid (show B < Wx2.heap.size from hG.p.lt)
        have gkF := Lib.hid (show G < Wx2.heap.size from hG.c.lt)
        have uf := Lib.hid (show N1 ≠ Wx2.heap.size from Nat.ne_of_lt kU.lt)
        replace b0 := b0.trans (But.of (bx.mono b0.size) _)
        replace hG := hG.below bx
        replace hH := And.intro (Exists.intro _ hG) (hH.2.below bx hH.2.lt)
        replace kU := kU.below bx kU.lt
        clear bx
        generalize Wx2.alloc (.cells #[.int .i64 0, .int .u32 0, .int .u32 0, .int .i64 0] 42) = Wx3 at *
        generalize Wx2.heap.size = N2 at *
        refine hK.out _ _ hH (fun _ => ?_)
        clear hK K
        try simp only [Act.put, List.setIfInBounds_toArray, List.set_cons_zero, List.set_cons_succ, List.getElem_toArray, List.getElem_cons_succ, List.getElem_cons_zero]
        refine wpAnyH_ready (rs := [18]) (by kernel_rfl) (by simp) ?_
        refine AllReadyH.cons rfl (fun K hK => ?_) AllReadyH.nil
        refine want_plain rfl ?_
        refine wp_store_row _ _ _ rfl N1 (stA g') rfl rfl 29 #[.int .u32 0, .int .u32 0, .int .u32 0, .int .u32 0, .int .u32 0, .int .u32 0, .int .u32 0, .int .u32 0, .int .u32 0, .bool false, .bool false, .bool false, .bool false, .bool false, .bool false, .bool false, .int .u64 0] kU.h szS rfl (stA_oneT _) ?_
        have bx := (But.refl [N1] Wx3.heap.size Wx3).setRow (g := N1) (by simp) (stA g')
        replace kU := kU.row (stA g')
        replace kF := kF.but bx kF.lt (by have := uf.out; simp; omega)
        replace hG := hG.but bx (by have := nkU.out; simp; omega) (by have := gkU.out; simp; omega)
        replace hH := And.intro (Exists.intro _ hG) (hH.2.but bx hH.2.lt (by have := mkU.out; simp; omega))
        replace b0 := b0.trans (But.of (bx.below b0.size (by have := mkU.out; simp; omega)) _)
        clear bx
        generalize Wx3.setRow N1 (stA g') = Wx4 at *
        refine hK.out _ _ hH (fun _ => ?_)
        clear hK K
        try simp only [Act.put, List.setIfInBounds_toArray, List.set_cons_zero, List.set_cons_succ, List.getElem_toArray, List.getElem_cons_succ, List.getElem_cons_zero]
        refine wpAnyH_ready (rs := [19]) (by kernel_rfl) (by simp) ?_
        refine AllReadyH.cons rfl (fun K hK => ?_) AllReadyH.nil
        refine want_plain rfl ?_
        refine wp_store_row _ _ _ rfl N2 #[.int .i64 0, .int .u32 0, .int .u32 0, .int .i64 0] rfl rfl 42 #[.int .i64 0, .int .u32 0, .int .u32 0, .int .i64 0] kF.h szF rfl (by simp [Value.oneCell']) ?_
        have bx := (But.refl [N2] Wx4.heap.size Wx4).setRow (g := N2) (by simp) #[.int .i64 0, .int .u32 0, .int .u32 0, .int .i64 0]
        replace kF := kF.row #[.int .i64 0, .int .u32 0, .int .u32 0, .int .i64 0]
        replace kU := kU.but bx kU.lt (by have := uf.out; simp; omega)
        replace hG := hG.but bx (by have := nkF.out; simp; omega) (by have := gkF.out; simp; omega)
        replace hH := And.intro (Exists.intro _ hG) (hH.2.but bx hH.2.lt (by have := mkF.out; simp; omega))
        replace b0 := b0.trans (But.of (bx.below b0.size (by have := mkF.out; simp; omega)) _)
        clear bx
        generalize Wx4.setRow N2 #[.int .i64 0, .int .u32 0, .int .u32 0, .int .i64 0] = Wx5 at *
        refine hK.out _ _ hH (fun _ => ?_)
        clear hK K
        try simp only [Act.put, List.setIfInBounds_toArray, List.set_cons_zero, List.set_cons_succ, List.getElem_toArray, List.getElem_cons_succ, List.getElem_cons_zero]
        refine wpAnyH_take (i := 20) (v := .bool true) rfl (by kernel_rfl) (by kernel_rfl) (by kernel_rfl) (fun _ _ _ h => h) (Or.inl ⟨by kernel_rfl, ?_⟩) hH ?_
        · intro W hS
          go_simp
          try rfl
        try simp only [Act.put, List.setIfInBounds_toArray, List.set_cons_zero, List.set_cons_succ, List.getElem_toArray, List.getElem_cons_succ, List.getElem_cons_zero]
        refine wpAnyH_done (by kernel_rfl) ?_ _
        exact ⟨N1, N2, by kernel_rfl, kU, kF, hG, b0, gkU.out, gkF.out⟩
      · go_simp
        have kF := Blk.new Wx1 42 #[.int .i64 0, .int .u32 0, .int .u32 0, .int .i64 0]
        have bx := (Below.refl Wx1.heap.size Wx1).alloc (Nat.le_refl _) (.cells #[.int .i64 0, .int .u32 0, .int .u32 0, .int .i64 0] 42)
        have mkF := Lib.hid (show w.heap.size < Wx1.heap.size from Nat.lt_of_lt_of_le hH.2.lt (Nat.le_refl _))
        have nkF := Lib.hid (show B < Wx1.heap.size from hG.p.lt)
        have gkF := Lib.hid (show G < Wx1.heap.size from hG.c.lt)
        have uf := Lib.hid (show N1 ≠ Wx1.heap.size from Nat.ne_of_lt kU.lt)
        replace b0 := b0.trans (But.of (bx.mono b0.size) _)
        replace hG := hG.below bx
        replace hH := And.intro (Exists.intro _ hG) (hH.2.below bx hH.2.lt)
        replace kU := kU.below bx kU.lt
        clear bx
        generalize Wx1.alloc (.cells #[.int .i64 0, .int .u32 0, .int .u32 0, .int .i64 0] 42) = Wx2 at *
        generalize Wx1.heap.size = N2 at *
        refine hK.out _ _ hH (fun _ => ?_)
        clear hK K
        try simp only [Act.put, List.setIfInBounds_toArray, List.set_cons_zero, List.set_cons_succ, List.getElem_toArray, List.getElem_cons_succ, List.getElem_cons_zero]
        refine wpAnyH_ready (rs := [11]) (by kernel_rfl) (by simp) ?_
        refine AllReadyH.cons rfl (fun K hK => ?_) AllReadyH.nil
        go_simp
        with_reducible refine (hR.out _ hG.p).mono ?_
        rintro e Wx3 ⟨rfl, px, bx⟩
        replace b0 := b0.trans (bx.mono (S' := [G, B]) b0.size (fun k hk => .inl (by simp at hk ⊢; omega)))
        replace hG := hG.mem px bx
        replace hH := And.intro (Exists.intro _ hG) (hH.2.but bx hH.2.lt (by have := nB.out; simp; omega))
        replace kU := kU.but bx kU.lt (by have := nkU.out; simp; omega)
        replace kF := kF.but bx kF.lt (by have := nkF.out; simp; omega)
        clear bx px
        refine hK.out _ _ hH (fun _ => ?_)
        clear hK K
        try simp only [Act.put, List.setIfInBounds_toArray, List.set_cons_zero, List.set_cons_succ, List.getElem_toArray, List.getElem_cons_succ, List.getElem_cons_zero]
        refine wpAnyH_take (i := 12) (v := .tuple #[stV g', fltV 0 0 0 0, .bool true]) rfl (by kernel_rfl) (by kernel_rfl) (by kernel_rfl) (fun _ _ _ h => h) (Or.inl ⟨by kernel_rfl, ?_⟩) hH ?_
        · intro W hS
          go_simp
          try rfl
        try simp only [Act.put, List.setIfInBounds_toArray, List.set_cons_zero, List.set_cons_succ, List.getElem_toArray, List.getElem_cons_succ, List.getElem_cons_zero]
        refine wpAnyH_take (i := 13) (v := stV g') rfl (by kernel_rfl) (by kernel_rfl) (by kernel_rfl) (fun _ _ _ h => h) (Or.inl ⟨by kernel_rfl, ?_⟩) hH ?_
        · intro W hS
          go_simp
          try rfl
        try simp only [Act.put, List.setIfInBounds_toArray, List.set_cons_zero, List.set_cons_succ, List.getElem_toArray, List.getElem_cons_succ, List.getElem_cons_zero]
        refine wpAnyH_take (i := 14) (v := fltV 0 0 0 0) rfl (by kernel_rfl) (by kernel_rfl) (by kernel_rfl) (fun _ _ _ h => h) (Or.inl ⟨by kernel_rfl, ?_⟩) hH ?_
        · intro W hS
          go_simp
          try rfl
        try simp only [Act.put, List.setIfInBounds_toArray, List.set_cons_zero, List.set_cons_succ, List.getElem_toArray, List.getElem_cons_succ, List.getElem_cons_zero]
        refine wpAnyH_take (i := 15) (v := .bool true) rfl (by kernel_rfl) (by kernel_rfl) (by kernel_rfl) (fun _ _ _ h => h) (Or.inl ⟨by kernel_rfl, ?_⟩) hH ?_
        · intro W hS
          go_simp
          try rfl
        try simp only [Act.put, List.setIfInBounds_toArray, List.set_cons_zero, List.set_cons_succ, List.getElem_toArray, List.getElem_cons_succ, List.getElem_cons_zero]
        refine wpAnyH_ready (rs := [18]) (by kernel_rfl) (by simp) ?_
        refine AllReadyH.cons rfl (fun K hK => ?_) AllReadyH.nil
        refine want_plain rfl ?_
        refine wp_store_row _ _ _ rfl N1 (stA g') rfl rfl 29 #[.int .u32 0, .int .u32 0, .int .u32 0, .int .u32 0, .int .u32 0, .int .u32 0, .int .u32 0, .int .u32 0, .int .u32 0, .bool false, .bool false, .bool false, .bool false, .bool false, .bool false, .bool false, .int .u64 0] kU.h szS rfl (stA_oneT _) ?_
        have bx := (But.refl [N1] Wx3.heap.size Wx3).setRow (g := N1) (by simp) (stA g')
        replace kU := kU.row (stA g')
        replace kF := kF.but bx kF.lt (by have := uf.out; simp; omega)
        replace hG := hG.but bx (by have := nkU.out; simp; omega) (by have := gkU.out; simp; omega)
        replace hH := And.intro (Exists.intro _ hG) (hH.2.but bx hH.2.lt (by have := mkU.out; simp; omega))
        replace b0 := b0.trans (But.of (bx.below b0.size (by have := mkU.out; simp; omega)) _)
        clear bx
        generalize Wx3.setRow N1 (stA g') = Wx4 at *
        refine hK.out _ _ hH (fun _ => ?_)
        clear hK K
        try simp only [Act.put, List.setIfInBounds_toArray, List.set_cons_zero, List.set_cons_succ, List.getElem_toArray, List.getElem_cons_succ, List.getElem_cons_zero]
        refine wpAnyH_ready (rs := [19]) (by kernel_rfl) (by simp) ?_
        refine AllReadyH.cons rfl (fun K hK => ?_) AllReadyH.nil
        refine want_plain rfl ?_
        refine wp_store_row _ _ _ rfl N2 #[.int .i64 0, .int .u32 0, .int .u32 0, .int .i64 0] rfl rfl 42 #[.int .i64 0, .int .u32 0, .int .u32 0, .int .i64 0] kF.h szF rfl (by simp [Value.oneCell']) ?_
        have bx := (But.refl [N2] Wx4.heap.size Wx4).setRow (g := N2) (by simp) #[.int .i64 0, .int .u32 0, .int .u32 0, .int .i64 0]
        replace kF := kF.row #[.int .i64 0, .int .u32 0, .int .u32 0, .int .i64 0]
        replace kU := kU.but bx kU.lt (by have := uf.out; simp; omega)
        replace hG := hG.but bx (by have := nkF.out; simp; omega) (by have := gkF.out; simp; omega)
        replace hH := And.intro (Exists.intro _ hG) (hH.2.but bx hH.2.lt (by have := mkF.out; simp; omega))
        replace b0 := b0.trans (But.of (bx.below b0.size (by have := mkF.out; simp; omega)) _)
        clear bx
        generalize Wx4.setRow N2 #[.int .i64 0, .int .u32 0, .int .u32 0, .int .i64 0] = Wx5 at *
        refine hK.out _ _ hH (fun _ => ?_)
        clear hK K
        try simp only [Act.put, List.setIfInBounds_toArray, List.set_cons_zero, List.set_cons_succ, List.getElem_toArray, List.getElem_cons_succ, List.getElem_cons_zero]
        refine wpAnyH_take (i := 20) (v := .bool true) rfl (by kernel_rfl) (by kernel_rfl) (by kernel_rfl) (fun _ _ _ h => h) (Or.inl ⟨by kernel_rfl, ?_⟩) hH ?_
        · intro W hS
          go_simp
          try rfl
        try simp only [Act.put, List.setIfInBounds_toArray, List.set_cons_zero, List.set_cons_succ, List.getElem_toArray, List.getElem_cons_succ, List.getElem_cons_zero]
        refine wpAnyH_done (by kernel_rfl) ?_ _
        exact ⟨N1, N2, by kernel_rfl, kU, kF, hG, b0, gkU.out, gkF.out⟩
    · go_simp
      have kF := Blk.new W 42 #[.int .i64 0, .int .u32 0, .int .u32 0, .int .i64 0]
      have bx := (Below.refl W.heap.size W).alloc (Nat.le_refl _) (.cells #[.int .i64 0, .int .u32 0, .int .u32 0, .int .i64 0] 42)
      have mkF := Lib.hid (show w.heap.size < W.heap.size from Nat.lt_of_lt_of_le hH.2.lt (Nat.le_refl _))
      have nkF := Lib.hid (show B < W.heap.size from hG.p.lt)
      have gkF := Lib.hid (show G < W.heap.size from hG.c.lt)
      replace b0 := b0.trans (But.of (bx.mono b0.size) _)
      replace hG := hG.below bx
      replace hH := And.intro (Exists.intro _ hG) (hH.2.below bx hH.2.lt)
      clear bx
      generalize W.alloc (.cells #[.int .i64 0, .int .u32 0, .int .u32 0, .int .i64 0] 42) = Wx1 at *
      generalize W.heap.size = N2 at *
      refine hK.out _ _ hH (fun _ => ?_)
      clear hK K
      try simp only [Act.put, List.setIfInBounds_toArray, List.set_cons_zero, List.set_cons_succ, List.getElem_toArray, List.getElem_cons_succ, List.getElem_cons_zero]
      refine wpAnyH_ready (rs := [11, 16]) (by kernel_rfl) (by simp) ?_
      refine AllReadyH.cons rfl (fun K hK => ?_) (AllReadyH.cons rfl (fun K hK => ?_) AllReadyH.nil)
      · go_simp
        with_reducible refine (hR.out _ hG.p).mono ?_
        rintro e Wx2 ⟨rfl, px, bx⟩
        replace b0 := b0.trans (bx.mono (S' := [G, B]) b0.size (fun k hk => .inl (by simp at hk ⊢; omega)))
        replace hG := hG.mem px bx
        replace hH := And.intro (Exists.intro _ hG) (hH.2.but bx hH.2.lt (by have := nB.out; simp; omega))
        replace kF := kF.but bx kF.lt (by have := nkF.out; simp; omega)
        clear bx px
        refine hK.out _ _ hH (fun _ => ?_)
        clear hK K
        try simp only [Act.put, List.setIfInBounds_toArray, List.set_cons_zero, List.set_cons_succ, List.getElem_toArray, List.getElem_cons_succ, List.getElem_cons_zero]
        refine wpAnyH_take (i := 12) (v := .tuple #[stV g', fltV 0 0 0 0, .bool true]) rfl (by kernel_rfl) (by kernel_rfl) (by kernel_rfl) (fun _ _ _ h => h) (Or.inl ⟨by kernel_rfl, ?_⟩) hH ?_
        · intro W hS
          go_simp
          try rfl
        try simp only [Act.put, List.setIfInBounds_toArray, List.set_cons_zero, List.set_cons_succ, List.getElem_toArray, List.getElem_cons_succ, List.getElem_cons_zero]
        refine wpAnyH_take (i := 13) (v := stV g') rfl (by kernel_rfl) (by kernel_rfl) (by kernel_rfl) (fun _ _ _ h => h) (Or.inl ⟨by kernel_rfl, ?_⟩) hH ?_
        · intro W hS
          go_simp
          try rfl
        try simp only [Act.put, List.setIfInBounds_toArray, List.set_cons_zero, List.set_cons_succ, List.getElem_toArray, List.getElem_cons_succ, List.getElem_cons_zero]
        refine wpAnyH_take (i := 14) (v := fltV 0 0 0 0) rfl (by kernel_rfl) (by kernel_rfl) (by kernel_rfl) (fun _ _ _ h => h) (Or.inl ⟨by kernel_rfl, ?_⟩) hH ?_
        · intro W hS
          go_simp
          try rfl
        try simp only [Act.put, List.setIfInBounds_toArray, List.set_cons_zero, List.set_cons_succ, List.getElem_toArray, List.getElem_cons_succ, List.getElem_cons_zero]
        refine wpAnyH_take (i := 15) (v := .bool true) rfl (by kernel_rfl) (by kernel_rfl) (by kernel_rfl) (fun _ _ _ h => h) (Or.inl ⟨by kernel_rfl, ?_⟩) hH ?_
        · intro W hS
          go_simp
          try rfl
        try simp only [Act.put, List.setIfInBounds_toArray, List.set_cons_zero, List.set_cons_succ, List.getElem_toArray, List.getElem_cons_succ, List.getElem_cons_zero]
        refine wpAnyH_ready (rs := [16]) (by kernel_rfl) (by simp) ?_
        refine AllReadyH.cons rfl (fun K hK => ?_) AllReadyH.nil
        go_simp
        have kU := Blk.new Wx2 29 #[.int .u32 0, .int .u32 0, .int .u32 0, .int .u32 0, .int .u32 0, .int .u32 0, .int .u32 0, .int .u32 0, .int .u32 0, .bool false, .bool false, .bool false, .bool false, .bool false, .bool false, .bool false, .int .u64 0]
        have bx := (Below.refl Wx2.heap.size Wx2).alloc (Nat.le_refl _) (.cells #[.int .u32 0, .int .u32 0, .int .u32 0, .int .u32 0, .int .u32 0, .int .u32 0, .int .u32 0, .int .u32 0, .int .u32 0, .bool false, .bool false, .bool false, .bool false, .bool false, .bool false, .bool false, .int .u64 0] 29)
        have mkU := Lib.hid (show w.heap.size < Wx2.heap.size from Nat.lt_of_lt_of_le hH.2.lt (Nat.le_refl _))
        have nkU := Lib.hid (show B < Wx2.heap.size from hG.p.lt)
        have gkU := Lib.hid (show G < Wx2.heap.size from hG.c.lt)
        have uf := Lib.hid (show N2 ≠ Wx2.heap.size from Nat.ne_of_lt kF.lt)
        replace b0 := b0.trans (But.of (bx.mono b0.size) _)
        replace hG := hG.below bx
        replace hH := And.intro (Exists.intro _ hG) (hH.2.below bx hH.2.lt)
        replace kF := kF.below bx kF.lt
        clear bx
        generalize Wx2.alloc (.cells #[.int .u32 0, .int .u32 0, .int .u32 0, .int .u32 0, .int .u32 0, .int .u32 0, .int .u32 0, .int .u32 0, .int .u32 0, .bool false, .bool false, .bool false, .bool false, .bool false, .bool false, .bool false, .int .u64 0] 29) = Wx3 at *
        generalize Wx2.heap.size = N1 at *
        refine hK.out _ _ hH (fun _ => ?_)
        clear hK K
        try simp only [Act.put, List.setIfInBounds_toArray, List.set_cons_zero, List.set_cons_succ, List.getElem_toArray, List.getElem_cons_succ, List.getElem_cons_zero]
        refine wpAnyH_ready (rs := [18]) (by kernel_rfl) (by simp) ?_
        refine AllReadyH.cons rfl (fun K hK => ?_) AllReadyH.nil
        refine want_plain rfl ?_
        refine wp_store_row _ _ _ rfl N1 (stA g') rfl rfl 29 #[.int .u32 0, .int .u32 0, .int .u32 0, .int .u32 0, .int .u32 0, .int .u32 0, .int .u32 0, .int .u32 0, .int .u32 0, .bool false, .bool false, .bool false, .bool false, .bool false, .bool false, .bool false, .int .u64 0] kU.h szS rfl (stA_oneT _) ?_
        have bx := (But.refl [N1] Wx3.heap.size Wx3).setRow (g := N1) (by simp) (stA g')
        replace kU := kU.row (stA g')
        replace kF := kF.but bx kF.lt (by have := uf.out; simp; omega)
        replace hG := hG.but bx (by have := nkU.out; simp; omega) (by have := gkU.out; simp; omega)
        replace hH := And.intro (Exists.intro _ hG) (hH.2.but bx hH.2.lt (by have := mkU.out; simp; omega))
        replace b0 := b0.trans (But.of (bx.below b0.size (by have := mkU.out; simp; omega)) _)
        clear bx
        generalize Wx3.setRow N1 (stA g') = Wx4 at *
        refine hK.out _ _ hH (fun _ => ?_)
        clear hK K
        try simp only [Act.put, List.setIfInBounds_toArray, List.set_cons_zero, List.set_cons_succ, List.getElem_toArray, List.getElem_cons_succ, List.getElem_cons_zero]
        refine wpAnyH_ready (rs := [19]) (by kernel_rfl) (by simp) ?_
        refine AllReadyH.cons rfl (fun K hK => ?_) AllReadyH.nil
        refine want_plain rfl ?_
        refine wp_store_row _ _ _ rfl N2 #[.int .i64 0, .int .u32 0, .int .u32 0, .int .i64 0] rfl rfl 42 #[.int .i64 0, .int .u32 0, .int .u32 0, .int .i64 0] kF.h szF rfl (by simp [Value.oneCell']) ?_
        have bx := (But.refl [N2] Wx4.heap.size Wx4).setRow (g := N2) (by simp) #[.int .i64 0, .int .u32 0, .int .u32 0, .int .i64 0]
        replace kF := kF.row #[.int .i64 0, .int .u32 0, .int .u32 0, .int .i64 0]
        replace kU := kU.but bx kU.lt (by have := uf.out; simp; omega)
        replace hG := hG.but bx (by have := nkF.out; simp; omega) (by have := gkF.out; simp; omega)
        replace hH := And.intro (Exists.intro _ hG) (hH.2.but bx hH.2.lt (by have := mkF.out; simp; omega))
        replace b0 := b0.trans (But.of (bx.below b0.size (by have := mkF.out; simp; omega)) _)
        clear bx
        generalize Wx4.setRow N2 #[.int .i64 0, .int .u32 0, .int .u32 0, .int .i64 0] = Wx5 at *
        refine hK.out _ _ hH (fun _ => ?_)
        clear hK K
        try simp only [Act.put, List.setIfInBounds_toArray, List.set_cons_zero, List.set_cons_succ, List.getElem_toArray, List.getElem_cons_succ, List.getElem_cons_zero]
        refine wpAnyH_take (i := 20) (v := .bool true) rfl (by kernel_rfl) (by kernel_rfl) (by kernel_rfl) (fun _ _ _ h => h) (Or.inl ⟨by kernel_rfl, ?_⟩) hH ?_
        · intro W hS
          go_simp
          try rfl
        try simp only [Act.put, List.setIfInBounds_toArray, List.set_cons_zero, List.set_cons_succ, List.getElem_toArray, List.getElem_cons_succ, List.getElem_cons_zero]
        refine wpAnyH_done (by kernel_rfl) ?_ _
        exact ⟨N1, N2, by kernel_rfl, kU, kF, hG, b0, gkU.out, gkF.out⟩
      · go_simp
        have kU := Blk.new Wx1 29 #[.int .u32 0, .int .u32 0, .int .u32 0, .int .u32 0, .int .u32 0, .int .u32 0, .int .u32 0, .int .u32 0, .int .u32 0, .bool false, .bool false, .bool false, .bool false, .bool false, .bool false, .bool false, .int .u64 0]
        have bx := (Below.refl Wx1.heap.size Wx1).alloc (Nat.le_refl _) (.cells #[.int .u32 0, .int .u32 0, .int .u32 0, .int .u32 0, .int .u32 0, .int .u32 0, .int .u32 0, .int .u32 0, .int .u32 0, .bool false, .bool false, .bool false, .bool false, .bool false, .bool false, .bool false, .int .u64 0] 29)
        have mkU := Lib.hid (show w.heap.size < Wx1.heap.size from Nat.lt_of_lt_of_le hH.2.lt (Nat.le_refl _))
        have nkU := Lib.hid (show B < Wx1.heap.size from hG.p.lt)
        have gkU := Lib.hid (show G < Wx1.heap.size from hG.c.lt)
        have uf := Lib.hid (show N2 ≠ Wx1.heap.size from Nat.ne_of_lt kF.lt)
        replace b0 := b0.trans (But.of (bx.mono b0.size) _)
        replace hG := hG.below bx
        replace hH := And.intro (Exists.intro _ hG) (hH.2.below bx hH.2.lt)
        replace kF := kF.below bx kF.lt
        clear bx
        generalize Wx1.alloc (.cells #[.int .u32 0, .int .u32 0, .int .u32 0, .int .u32 0, .int .u32 0, .int .u32 0, .int .u32 0, .int .u32 0, .int .u32 0, .bool false, .bool false, .bool false, .bool false, .bool false, .bool false, .bool false, .int .u64 0] 29) = Wx2 at *
        generalize Wx1.heap.size = N1 at *
        refine hK.out _ _ hH (fun _ => ?_)
        clear hK K
        try simp only [Act.put, List.setIfInBounds_toArray, List.set_cons_zero, List.set_cons_succ, List.getElem_toArray, List.getElem_cons_succ, List.getElem_cons_zero]
        refine wpAnyH_ready (rs := [11]) (by kernel_rfl) (by simp) ?_
        refine AllReadyH.cons rfl (fun K hK => ?_) AllReadyH.nil
        go_simp
        with_reducible refine (hR.out _ hG.p).mono ?_
        rintro e Wx3 ⟨rfl, px, bx⟩
        replace b0 := b0.trans (bx.mono (S' := [G, B]) b0.size (fun k hk => .inl (by simp at hk ⊢; omega)))
        replace hG := hG.mem px bx
        replace hH := And.intro (Exists.intro _ hG) (hH.2.but bx hH.2.lt (by have := nB.out; simp; omega))
        replace kU := kU.but bx kU.lt (by have := nkU.out; simp; omega)
        replace kF := kF.but bx kF.lt (by have := nkF.out; simp; omega)
        clear bx px
        refine hK.out _ _ hH (fun _ => ?_)
        clear hK K
        try simp only [Act.put, List.setIfInBounds_toArray, List.set_cons_zero, List.set_cons_succ, List.getElem_toArray, List.getElem_cons_succ, List.getElem_cons_zero]
        refine wpAnyH_take (i := 12) (v := .tuple #[stV g', fltV 0 0 0 0, .bool true]) rfl (by kernel_rfl) (by kernel_rfl) (by kernel_rfl) (fun _ _ _ h => h) (Or.inl ⟨by kernel_rfl, ?_⟩) hH ?_
        · intro W hS
          go_simp
          try rfl
        try simp only [Act.put, List.setIfInBounds_toArray, List.set_cons_zero, List.set_cons_succ, List.getElem_toArray, List.getElem_cons_succ, List.getElem_cons_zero]
        refine wpAnyH_take (i := 13) (v := stV g') rfl (by kernel_rfl) (by kernel_rfl) (by kernel_rfl) (fun _ _ _ h => h) (Or.inl ⟨by kernel_rfl, ?_⟩) hH ?_
        · intro W hS
          go_simp
          try rfl
        try simp only [Act.put, List.setIfInBounds_toArray, List.set_cons_zero, List.set_cons_succ, List.getElem_toArray, List.getElem_cons_succ, List.getElem_cons_zero]
        refine wpAnyH_take (i := 14) (v := fltV 0 0 0 0) rfl (by kernel_rfl) (by kernel_rfl) (by kernel_rfl) (fun _ _ _ h => h) (Or.inl ⟨by kernel_rfl, ?_⟩) hH ?_
        · intro W hS
          go_simp
          try rfl
        try simp only [Act.put, List.setIfInBounds_toArray, List.set_cons_zero, List.set_cons_succ, List.getElem_toArray, List.getElem_cons_succ, List.getElem_cons_zero]
        refine wpAnyH_take (i := 15) (v := .bool true) rfl (by kernel_rfl) (by kernel_rfl) (by kernel_rfl) (fun _ _ _ h => h) (Or.inl ⟨by kernel_rfl, ?_⟩) hH ?_
        · intro W hS
          go_simp
          try rfl
        try simp only [Act.put, List.setIfInBounds_toArray, List.set_cons_zero, List.set_cons_succ, List.getElem_toArray, List.getElem_cons_succ, List.getElem_cons_zero]
        refine wpAnyH_ready (rs := [18]) (by kernel_rfl) (by simp) ?_
        refine AllReadyH.cons rfl (fun K hK => ?_) AllReadyH.nil
        refine want_plain rfl ?_
        refine wp_store_row _ _ _ rfl N1 (stA g') rfl rfl 29 #[.int .u32 0, .int .u32 0, .int .u32 0, .int .u32 0, .int .u32 0, .int .u32 0, .int .u32 0, .int .u32 0, .int .u32 0, .bool false, .bool false, .bool false, .bool false, .bool false, .bool false, .bool false, .int .u64 0] kU.h szS rfl (stA_oneT _) ?_
        have bx := (But.refl [N1] Wx3.heap.size Wx3).setRow (g := N1) (by simp) (stA g')
        replace kU := kU.row (stA g')
        replace kF := kF.but bx kF.lt (by have := uf.out; simp; omega)
        replace hG := hG.but bx (by have := nkU.out; simp; omega) (by have := gkU.out; simp; omega)
        replace hH := And.intro (Exists.intro _ hG) (hH.2.but bx hH.2.lt (by have := mkU.out; simp; omega))
        replace b0 := b0.trans (But.of (bx.below b0.size (by have := mkU.out; simp; omega)) _)
        clear bx
        generalize Wx3.setRow N1 (stA g') = Wx4 at *
        refine hK.out _ _ hH (fun _ => ?_)
        clear hK K
        try simp only [Act.put, List.setIfInBounds_toArray, List.set_cons_zero, List.set_cons_succ, List.getElem_toArray, List.getElem_cons_succ, List.getElem_cons_zero]
        refine wpAnyH_ready (rs := [19]) (by kernel_rfl) (by simp) ?_
        refine AllReadyH.cons rfl (fun K hK => ?_) AllReadyH.nil
        refine want_plain rfl ?_
        refine wp_store_row _ _ _ rfl N2 #[.int .i64 0, .int .u32 0, .int .u32 0, .int .i64 0] rfl rfl 42 #[.int .i64 0, .int .u32 0, .int .u32 0, .int .i64 0] kF.h szF rfl (by simp [Value.oneCell']) ?_
        have bx := (But.refl [N2] Wx4.heap.size Wx4).setRow (g := N2) (by simp) #[.int .i64 0, .int .u32 0, .int .u32 0, .int .i64 0]
        replace kF := kF.row #[.int .i64 0, .int .u32 0, .int .u32 0, .int .i64 0]
        replace kU := kU.but bx kU.lt (by have := uf.out; simp; omega)
        replace hG := hG.but bx (by have := nkF.out; simp; omega) (by have := gkF.out; simp; omega)
        replace hH := And.intro (Exists.intro _ hG) (hH.2.but bx hH.2.lt (by have := mkF.out; simp; omega))
        replace b0 := b0.trans (But.of (bx.below b0.size (by have := mkF.out; simp; omega)) _)
        clear bx
        generalize Wx4.setRow N2 #[.int .i64 0, .int .u32 0, .int .u32 0, .int .i64 0] = Wx5 at *
        refine hK.out _ _ hH (fun _ => ?_)
        clear hK K
        try simp only [Act.put, List.setIfInBounds_toArray, List.set_cons_zero, List.set_cons_succ, List.getElem_toArray, List.getElem_cons_succ, List.getElem_cons_zero]
        refine wpAnyH_take (i := 20) (v := .bool true) rfl (by kernel_rfl) (by kernel_rfl) (by kernel_rfl) (fun _ _ _ h => h) (Or.inl ⟨by kernel_rfl, ?_⟩) hH ?_
        · intro W hS
          go_simp
          try rfl
        try simp only [Act.put, List.setIfInBounds_toArray, List.set_cons_zero, List.set_cons_succ, List.getElem_toArray, List.getElem_cons_succ, List.getElem_cons_zero]
        refine wpAnyH_done (by kernel_rfl) ?_ _
        exact ⟨N1, N2, by kernel_rfl, kU, kF, hG, b0, gkU.out, gkF.out⟩
  rintro a' Wq ⟨N1, N2, rfl, kU, kF, hG, bq, gU, gF⟩
  simp only [Act.put, List.setIfInBounds_toArray, List.set_cons_zero, List.set_cons_succ]
  have c0 := kF.cell (i := 0) rfl
  have c1 := kF.cell (i := 1) rfl
  have c2 := kF.cell (i := 2) rfl
  have c3 := kF.cell (i := 3) rfl
  go_upto_region 3 with ((with_reducible refine (hM.out _).mono ?_); rintro e w1 ⟨rfl, b1⟩)
  have kU1 := kU.below b1 kU.lt
  have hG1 := hG.below b1
  replace bq := bq.trans (But.of (b1.mono bq.size) _)
  clear c0 c1 c2 c3 kU kF hG b1
  go_wp2_with (first | (with_reducible refine load_st rfl _ rfl N1 (stA g') rfl kU1 rfl ?_) | ((with_reducible refine store_gst rfl _ _ rfl g' rfl rfl hG1 ?_); intro w2 hG2 b2 s2))
  exact bodyPost_end (v := .tuple #[]) (by simp [results, Tryz.results153, go_sem]) rfl ⟨rfl, hG2, bq.trans (b2.mono (S' := [G, B]) bq.size (fun k hk => .inl (by simp at hk ⊢; omega)))⟩
set_option maxRecDepth 20000 in
set_option maxHeartbeats 20000000 in
theorem gwrite_no {w : World} {G B : Nat} {g : Gs} {m : Mm} (h : GuAt w G B g m) (o : On) (n v : Int) (a t : Int) (hr : ∀ W, PAt W B m → Calls Tryz.prog 196 #[mp B, stV g, opV o, .int .i64 n, .int .u32 v] W fun e w' => e = .returned (.tuple #[stV g, fltV 1 0 a t, .bool false]) ∧ Below W.heap.size W w') :
    Calls Tryz.prog 153 #[mp G, opV o, .int .i64 n, .int .u32 v] w fun e w' => e = .panicked (fltP a t) ∧ Below w.heap.size w w' := by
  have hR := Lib.hid hr
  have hM := Lib.hid (fun W => must_no 1 a t W)
  clear hr
  have b0 := (Below.refl w.heap.size w).alloc (Nat.le_refl _) (.cells (op6 o) 31)
  have kO := Blk.new w 31 (op6 o)
  have hg := h.below b0
  have nB := Lib.hid (show B < w.heap.size from h.p.lt)
  have nG := Lib.hid (show G < w.heap.size from h.c.lt)
  go_enter Tryz.func153, Tryz.ntmps153
  go_upto_region 1 with fail
  generalize w.alloc (.cells (op6 o) 31) = W0 at *
  replace b0 := But.of b0 []
  refine cut_at (fun x x' w' => ∃ N1 N2, x' = (((((((((((((((((((x.put (some 12) (mp G)).put (some 13) (mp G)).put (some 14) (mp G)).put (some 15) (mp B)).put (some 16) (mp G)).put (some 17) (mp G)).put (some 18) (.pointer (some ⟨G, 1, none⟩))).put (some 19) (stV g)).put (some 20) (opV o)).put (some 21) (.int .i64 n)).put (some 22) (.int .u32 v)).put (some 23) (.tuple #[stV g, fltV 1 0 a t, .bool false])).put (some 11) (.tuple #[stV g, fltV 1 0 a t, .bool false])).put (some 24) (stV g)).put (some 25) (fltV 1 0 a t)).put (some 26) (.bool false)).put (some 8) (.pointer (some ⟨N1, 0, none⟩))).put (some 9) (.pointer (some ⟨N2, 0, none⟩))).put (some 10) (.bool false)) ∧ Blk w' N1 29 (stA g) ∧ Blk w' N2 42 #[.int .i64 1, .int .u32 0, .int .u32 a, .int .i64 t] ∧ GuAt w' G B g m ∧ But [] w.heap.size w w' ∧ G < N1 ∧ G < N2) ?_ ?_
  rotate_left
  · refine wp_region_held_drew (S := fun V => (∃ mm, GuAt V G B g mm) ∧ Blk V w.heap.size 31 (op6 o)) (by kernel_rfl) ⟨⟨m, hg.drew⟩, kO.drew⟩ (fun hH => ?_)
    replace b0 := b0.drew
    have hG := hg.drew
    clear kO h hg
    generalize W0.drew = W at *
    refine wpAnyH_take (i := 0) (v := ?_) rfl (by kernel_rfl) (by kernel_rfl) (by kernel_rfl) (fun _ _ _ h => h) (Or.inl ⟨by kernel_rfl, ?_⟩) hH ?_
    rotate_left
    · intro W hS
      go_simp
      try rfl
    try simp only [Act.put, List.setIfInBounds_toArray, List.set_cons_zero, List.set_cons_succ, List.getElem_toArray, List.getElem_cons_succ, List.getElem_cons_zero]
    refine wpAnyH_take (i := 1) (v := ?_) rfl (by kernel_rfl) (by kernel_rfl) (by kernel_rfl) (fun _ _ _ h => h) (Or.inl ⟨by kernel_rfl, ?_⟩) hH ?_
    rotate_left
    · intro W hS
      go_simp
      try rfl
    try simp only [Act.put, List.setIfInBounds_toArray, List.set_cons_zero, List.set_cons_succ, List.getElem_toArray, List.getElem_cons_succ, List.getElem_cons_zero]
    refine wpAnyH_take (i := 2) (v := ?_) rfl (by kernel_rfl) (by kernel_rfl) (by kernel_rfl) (fun _ _ _ h => h) (Or.inl ⟨by kernel_rfl, ?_⟩) hH ?_
    rotate_left
    · intro W hS
      go_simp
      try rfl
    try simp only [Act.put, List.setIfInBounds_toArray, List.set_cons_zero, List.set_cons_succ, List.getElem_toArray, List.getElem_cons_succ, List.getElem_cons_zero]
    refine wpAnyH_take (i := 3) (v := mp B) rfl (by kernel_rfl) (by kernel_rfl) (by kernel_rfl) (fun _ _ _ h => h) (Or.inl ⟨by kernel_rfl, ?_⟩) hH ?_
    · intro W hS
      obtain ⟨⟨mm, hm⟩, -⟩ := hS
      have c1 := hm.c.cell (i := 0) (v := mp B) rfl
      go_simp
    try simp only [Act.put, List.setIfInBounds_toArray, List.set_cons_zero, List.set_cons_succ, List.getElem_toArray, List.getElem_cons_succ, List.getElem_cons_zero]
    refine wpAnyH_take (i := 4) (v := ?_) rfl (by kernel_rfl) (by kernel_rfl) (by kernel_rfl) (fun _ _ _ h => h) (Or.inl ⟨by kernel_rfl, ?_⟩) hH ?_
    rotate_left
    · intro W hS
      go_simp
      try rfl
    try simp only [Act.put, List.setIfInBounds_toArray, List.set_cons_zero, List.set_cons_succ, List.getElem_toArray, List.getElem_cons_succ, List.getElem_cons_zero]
    refine wpAnyH_take (i := 5) (v := ?_) rfl (by kernel_rfl) (by kernel_rfl) (by kernel_rfl) (fun _ _ _ h => h) (Or.inl ⟨by kernel_rfl, ?_⟩) hH ?_
    rotate_left
    · intro W hS
      go_simp
      try rfl
    try simp only [Act.put, List.setIfInBounds_toArray, List.set_cons_zero, List.set_cons_succ, List.getElem_toArray, List.getElem_cons_succ, List.getElem_cons_zero]
    refine wpAnyH_take (i := 6) (v := ?_) rfl (by kernel_rfl) (by kernel_rfl) (by kernel_rfl) (fun _ _ _ h => h) (Or.inl ⟨by kernel_rfl, ?_⟩) hH ?_
    rotate_left
    · intro W hS
      go_simp
      try rfl
    try simp only [Act.put, List.setIfInBounds_toArray, List.set_cons_zero, List.set_cons_succ, List.getElem_toArray, List.getElem_cons_succ, List.getElem_cons_zero]
    refine wpAnyH_take (i := 7) (v := stV g) rfl (by kernel_rfl) (by kernel_rfl) (by kernel_rfl) (fun _ _ _ h => h) (Or.inl ⟨by kernel_rfl, ?_⟩) hH ?_
    · intro W hS
      obtain ⟨⟨mm, hm⟩, -⟩ := hS
      exact run_load_gst (by rfl) (by rfl) hm
    try simp only [Act.put, List.setIfInBounds_toArray, List.set_cons_zero, List.set_cons_succ, List.getElem_toArray, List.getElem_cons_succ, List.getElem_cons_zero]
    refine wpAnyH_take (i := 8) (v := opV o) rfl (by kernel_rfl) (by kernel_rfl) (by kernel_rfl) (fun _ _ _ h => h) (Or.inl ⟨by kernel_rfl, ?_⟩) hH ?_
    · intro W hS
      exact run_load_op (by rfl) (by rfl) hS.2
    try simp only [Act.put, List.setIfInBounds_toArray, List.set_cons_zero, List.set_cons_succ, List.getElem_toArray, List.getElem_cons_succ, List.getElem_cons_zero]
    refine wpAnyH_take (i := 9) (v := ?_) rfl (by kernel_rfl) (by kernel_rfl) (by kernel_rfl) (fun _ _ _ h => h) (Or.inl ⟨by kernel_rfl, ?_⟩) hH ?_
    rotate_left
    · intro W hS
      go_simp
      try rfl
    try simp only [Act.put, List.setIfInBounds_toArray, List.set_cons_zero, List.set_cons_succ, List.getElem_toArray, List.getElem_cons_succ, List.getElem_cons_zero]
    refine wpAnyH_take (i := 10) (v := ?_) rfl (by kernel_rfl) (by kernel_rfl) (by kernel_rfl) (fun _ _ _ h => h) (Or.inl ⟨by kernel_rfl, ?_⟩) hH ?_
    rotate_left
    · intro W hS
      go_simp
      try rfl
    try simp only [Act.put, List.setIfInBounds_toArray, List.set_cons_zero, List.set_cons_succ, List.getElem_toArray, List.getElem_cons_succ, List.getElem_cons_zero]
    refine wpAnyH_ready (rs := [11, 16, 17]) (by kernel_rfl) (by simp) ?_
    refine AllReadyH.cons rfl (fun K hK => ?_) (AllReadyH.cons rfl (fun K hK => ?_) (AllReadyH.cons rfl (fun K hK => ?_) AllReadyH.nil))
    · go_simp
      with_reducible refine (hR.out _ hG.p).mono ?_
      rintro e Wx1 ⟨rfl, bx⟩
      replace b0 := b0.trans (But.of (bx.mono b0.size) _)
      replace hG := hG.below bx
      replace hH := And.intro (Exists.intro _ hG) (hH.2.below bx hH.2.lt)
      clear bx
      refine hK.out _ _ hH (fun _ => ?_)
      clear hK K
      try simp only [Act.put, List.setIfInBounds_toArray, List.set_cons_zero, List.set_cons_succ, List.getElem_toArray, List.getElem_cons_succ, List.getElem_cons_zero]
      refine wpAnyH_take (i := 12) (v := .tuple #[stV g, fltV 1 0 a t, .bool false]) rfl (by kernel_rfl) (by kernel_rfl) (by kernel_rfl) (fun _ _ _ h => h) (Or.inl ⟨by kernel_rfl, ?_⟩) hH ?_
      · intro W hS
        go_simp
        try rfl
      try simp only [Act.put, List.setIfInBounds_toArray, List.set_cons_zero, List.set_cons_succ, List.getElem_toArray, List.getElem_cons_succ, List.getElem_cons_zero]
      refine wpAnyH_take (i := 13) (v := stV g) rfl (by kernel_rfl) (by kernel_rfl) (by kernel_rfl) (fun _ _ _ h => h) (Or.inl ⟨by kernel_rfl, ?_⟩) hH ?_
      · intro W hS
        go_simp
        try rfl
      try simp only [Act.put, List.setIfInBounds_toArray, List.set_cons_zero, List.set_cons_succ, List.getElem_toArray, List.getElem_cons_succ, List.getElem_cons_zero]
      refine wpAnyH_take (i := 14) (v := fltV 1 0 a t) rfl (by kernel_rfl) (by kernel_rfl) (by kernel_rfl) (fun _ _ _ h => h) (Or.inl ⟨by kernel_rfl, ?_⟩) hH ?_
      · intro W hS
        go_simp
        try rfl
      try simp only [Act.put, List.setIfInBounds_toArray, List.set_cons_zero, List.set_cons_succ, List.getElem_toArray, List.getElem_cons_succ, List.getElem_cons_zero]
      refine wpAnyH_take (i := 15) (v := .bool false) rfl (by kernel_rfl) (by kernel_rfl) (by kernel_rfl) (fun _ _ _ h => h) (Or.inl ⟨by kernel_rfl, ?_⟩) hH ?_
      · intro W hS
        go_simp
        try rfl
      try simp only [Act.put, List.setIfInBounds_toArray, List.set_cons_zero, List.set_cons_succ, List.getElem_toArray, List.getElem_cons_succ, List.getElem_cons_zero]
      refine wpAnyH_ready (rs := [16, 17]) (by kernel_rfl) (by simp) ?_
      refine AllReadyH.cons rfl (fun K hK => ?_) (AllReadyH.cons rfl (fun K hK => ?_) AllReadyH.nil)
      · go_simp
        have kU := Blk.new Wx1 29 #[.int .u32 0, .int .u32 0, .int .u32 0, .int .u32 0, .int .u32 0, .int .u32 0, .int .u32 0, .int .u32 0, .int .u32 0, .bool false, .bool false, .bool false, .bool false, .bool false, .bool false, .bool false, .int .u64 0]
        have bx := (Below.refl Wx1.heap.size Wx1).alloc (Nat.le_refl _) (.cells #[.int .u32 0, .int .u32 0, .int .u32 0, .int .u32 0, .int .u32 0, .int .u32 0, .int .u32 0, .int .u32 0, .int .u32 0, .bool false, .bool false, .bool false, .bool false, .bool false, .bool false, .bool false, .int .u64 0] 29)
        have mkU := Lib.hid (show w.heap.size < Wx1.heap.size from Nat.lt_of_lt_of_le hH.2.lt (Nat.le_refl _))
        have nkU := Lib.hid (show B < Wx1.heap.size from hG.p.lt)
        have gkU := Lib.hid (show G < Wx1.heap.size from hG.c.lt)
        replace b0 := b0.trans (But.of (bx.mono b0.size) _)
        replace hG := hG.below bx
        replace hH := And.intro (Exists.intro _ hG) (hH.2.below bx hH.2.lt)
        clear bx
        generalize Wx1.alloc (.cells #[.int .u32 0, .int .u32 0, .int .u32 0, .int .u32 0, .int .u32 0, .int .u32 0, .int .u32 0, .int .u32 0, .int .u32 0, .bool false, .bool false, .bool false, .bool false, .bool false, .bool false, .bool false, .int .u64 0] 29) = Wx2 at *
        generalize Wx1.heap.size = N1 at *
        refine hK.out _ _ hH (fun _ => ?_)
        clear hK K
        try simp only [Act.put, List.setIfInBounds_toArray, List.set_cons_zero, List.set_cons_succ, List.getElem_toArray, List.getElem_cons_succ, List.getElem_cons_zero]
        refine wpAnyH_ready (rs := [17]) (by kernel_rfl) (by simp) ?_
        refine AllReadyH.cons rfl (fun K hK => ?_) AllReadyH.nil
        go_simp
        have kF := Blk.new Wx2 42 #[.int .i64 0, .int .u32 0, .int .u32 0, .int .i64 0]
        have bx := (Below.refl Wx2.heap.size Wx2).alloc (Nat.le_refl _) (.cells #[.int .i64 0, .int .u32 0, .int .u32 0, .int .i64 0] 42)
        have mkF := Lib.hid (show w.heap.size < Wx2.heap.size from Nat.lt_of_lt_of_le hH.2.lt (Nat.le_refl _))
        have nkF := Lib.hid (show B < Wx2.heap.size from hG.p.lt)
        have gkF := Lib.hid (show G < Wx2.heap.size from hG.c.lt)
        have uf := Lib.hid (show N1 ≠ Wx2.heap.size from Nat.ne_of_lt kU.lt)
        replace b0 := b0.trans (But.of (bx.mono b0.size) _)
        replace hG := hG.below bx
        replace hH := And.intro (Exists.intro _ hG) (hH.2.below bx hH.2.lt)
        replace kU := kU.below bx kU.lt
        clear bx
        generalize Wx2.alloc (.cells #[.int .i64 0, .int .u32 0, .int .u32 0, .int .i64 0] 42) = Wx3 at *
        generalize Wx2.heap.size = N2 at *
        refine hK.out _ _ hH (fun _ => ?_)
        clear hK K
        try simp only [Act.put, List.setIfInBounds_toArray, List.set_cons_zero, List.set_cons_succ, List.getElem_toArray, List.getElem_cons_succ, List.getElem_cons_zero]
        refine wpAnyH_ready (rs := [18]) (by kernel_rfl) (by simp) ?_
        refine AllReadyH.cons rfl (fun K hK => ?_) AllReadyH.nil
        refine want_plain rfl ?_
        refine wp_store_row _ _ _ rfl N1 (stA g) rfl rfl 29 #[.int .u32 0, .int .u32 0, .int .u32 0, .int .u32 0, .int .u32 0, .int .u32 0, .int .u32 0, .int .u32 0, .int .u32 0, .bool false, .bool false, .bool false, .bool false, .bool false, .bool false, .bool false, .int .u64 0] kU.h szS rfl (stA_oneT _) ?_
        have bx := (But.refl [N1] Wx3.heap.size Wx3).setRow (g := N1) (by simp) (stA g)
        replace kU := kU.row (stA g)
        replace kF := kF.but bx kF.lt (by have := uf.out; simp; omega)
        replace hG := hG.but bx (by have := nkU.out; simp; omega) (by have := gkU.out; simp; omega)
        replace hH := And.intro (Exists.intro _ hG) (hH.2.but bx hH.2.lt (by have := mkU.out; simp; omega))
        replace b0 := b0.trans (But.of (bx.below b0.size (by have := mkU.out; simp; omega)) _)
        clear bx
        generalize Wx3.setRow N1 (stA g) = Wx4 at *
        refine hK.out _ _ hH (fun _ => ?_)
        clear hK K
        try simp only [Act.put, List.setIfInBounds_toArray, List.set_cons_zero, List.set_cons_succ, List.getElem_toArray, List.getElem_cons_succ, List.getElem_cons_zero]
        refine wpAnyH_ready (rs := [19]) (by kernel_rfl) (by simp) ?_
        refine AllReadyH.cons rfl (fun K hK => ?_) AllReadyH.nil
        refine want_plain rfl ?_
        refine wp_store_row _ _ _ rfl N2 #[.int .i64 1, .int .u32 0, .int .u32 a, .int .i64 t] rfl rfl 42 #[.int .i64 0, .int .u32 0, .int .u32 0, .int .i64 0] kF.h szF rfl (by simp [Value.oneCell']) ?_
        have bx := (But.refl [N2] Wx4.heap.size Wx4).setRow (g := N2) (by simp) #[.int .i64 1, .int .u32 0, .int .u32 a, .int .i64 t]
        replace kF := kF.row #[.int .i64 1, .int .u32 0, .int .u32 a, .int .i64 t]
        replace kU := kU.but bx kU.lt (by have := uf.out; simp; omega)
        replace hG := hG.but bx (by have := nkF.out; simp; omega) (by have := gkF.out; simp; omega)
        replace hH := And.intro (Exists.intro _ hG) (hH.2.but bx hH.2.lt (by have := mkF.out; simp; omega))
        replace b0 := b0.trans (But.of (bx.below b0.size (by have := mkF.out; simp; omega)) _)
        clear bx
        generalize Wx4.setRow N2 #[.int .i64 1, .int .u32 0, .int .u32 a, .int .i64 t] = Wx5 at *
        refine hK.out _ _ hH (fun _ => ?_)
        clear hK K
        try simp only [Act.put, List.setIfInBounds_toArray, List.set_cons_zero, List.set_cons_succ, List.getElem_toArray, List.getElem_cons_succ, List.getElem_cons_zero]
        refine wpAnyH_take (i := 20) (v := .bool false) rfl (by kernel_rfl) (by kernel_rfl) (by kernel_rfl) (fun _ _ _ h => h) (Or.inl ⟨by kernel_rfl, ?_⟩) hH ?_
        · intro W hS
          go_simp
          try rfl
        try simp only [Act.put, List.setIfInBounds_toArray, List.set_cons_zero, List.set_cons_succ, List.getElem_toArray, List.getElem_cons_succ, List.getElem_cons_zero]
        refine wpAnyH_done (by kernel_rfl) ?_ _
        exact ⟨N1, N2, by kernel_rfl, kU, kF, hG, b0, gkU.out, gkF.out⟩
      · go_simp
        have kF := Blk.new Wx1 42 #[.int .i64 0, .int .u32 0, .int .u32 0, .int .i64 0]
        have bx := (Below.refl Wx1.heap.size Wx1).alloc (Nat.le_refl _) (.cells #[.int .i64 0, .int .u32 0, .int .u32 0, .int .i64 0] 42)
        have mkF := Lib.hid (show w.heap.size < Wx1.heap.size from Nat.lt_of_lt_of_le hH.2.lt (Nat.le_refl _))
        have nkF := Lib.hid (show B < Wx1.heap.size from hG.p.lt)
        have gkF := Lib.hid (show G < Wx1.heap.size from hG.c.lt)
        replace b0 := b0.trans (But.of (bx.mono b0.size) _)
        replace hG := hG.below bx
        replace hH := And.intro (Exists.intro _ hG) (hH.2.below bx hH.2.lt)
        clear bx
        generalize Wx1.alloc (.cells #[.int .i64 0, .int .u32 0, .int .u32 0, .int .i64 0] 42) = Wx2 at *
        generalize Wx1.heap.size = N2 at *
        refine hK.out _ _ hH (fun _ => ?_)
        clear hK K
        try simp only [Act.put, List.setIfInBounds_toArray, List.set_cons_zero, List.set_cons_succ, List.getElem_toArray, List.getElem_cons_succ, List.getElem_cons_zero]
        refine wpAnyH_ready (rs := [16]) (by kernel_rfl) (by simp) ?_
        refine AllReadyH.cons rfl (fun K hK => ?_) AllReadyH.nil
        go_simp
        have kU := Blk.new Wx2 29 #[.int .u32 0, .int .u32 0, .int .u32 0, .int .u32 0, .int .u32 0, .int .u32 0, .int .u32 0, .int .u32 0, .int .u32 0, .bool false, .bool false, .bool false, .bool false, .bool false, .bool false, .bool false, .int .u64 0]
        have bx := (Below.refl Wx2.heap.size Wx2).alloc (Nat.le_refl _) (.cells #[.int .u32 0, .int .u32 0, .int .u32 0, .int .u32 0, .int .u32 0, .int .u32 0, .int .u32 0, .int .u32 0, .int .u32 0, .bool false, .bool false, .bool false, .bool false, .bool false, .bool false, .bool false, .int .u64 0] 29)
        have mkU := Lib.hid (show w.heap.size < Wx2.heap.size from Nat.lt_of_lt_of_le hH.2.lt (Nat.le_refl _))
        have nkU := Lib.hid (show B < Wx2.heap.size from hG.p.lt)
        have gkU := Lib.hid (show G < Wx2.heap.size from hG.c.lt)
        have uf := Lib.hid (show N2 ≠ Wx2.heap.size from Nat.ne_of_lt kF.lt)
        replace b0 := b0.trans (But.of (bx.mono b0.size) _)
        replace hG := hG.below bx
        replace hH := And.intro (Exists.intro _ hG) (hH.2.below bx hH.2.lt)
        replace kF := kF.below bx kF.lt
        clear bx
        generalize Wx2.alloc (.cells #[.int .u32 0, .int .u32 0, .int .u32 0, .int .u32 0, .int .u32 0, .int .u32 0, .int .u32 0, .int .u32 0, .int .u32 0, .bool false, .bool false, .bool false, .bool false, .bool false, .bool false, .bool false, .int .u64 0] 29) = Wx3 at *
        generalize Wx2.heap.size = N1 at *
        refine hK.out _ _ hH (fun _ => ?_)
        clear hK K
        try simp only [Act.put, List.setIfInBounds_toArray, List.set_cons_zero, List.set_cons_succ, List.getElem_toArray, List.getElem_cons_succ, List.getElem_cons_zero]
        refine wpAnyH_ready (rs := [18]) (by kernel_rfl) (by simp) ?_
        refine AllReadyH.cons rfl (fun K hK => ?_) AllReadyH.nil
        refine want_plain rfl ?_
        refine wp_store_row _ _ _ rfl N1 (stA g) rfl rfl 29 #[.int .u32 0, .int .u32 0, .int .u32 0, .int .u32 0, .int .u32 0, .int .u32 0, .int .u32 0, .int .u32 0, .int .u32 0, .bool false, .bool false, .bool false, .bool false, .bool false, .bool false, .bool false, .int .u64 0] kU.h szS rfl (stA_oneT _) ?_
        have bx := (But.refl [N1] Wx3.heap.size Wx3).setRow (g := N1) (by simp) (stA g)
        replace kU := kU.row (stA g)
        replace kF := kF.but bx kF.lt (by have := uf.out; simp; omega)
        replace hG := hG.but bx (by have := nkU.out; simp; omega) (by have := gkU.out; simp; omega)
        replace hH := And.intro (Exists.intro _ hG) (hH.2.but bx hH.2.lt (by have := mkU.out; simp; omega))
        replace b0 := b0.trans (But.of (bx.below b0.size (by have := mkU.out; simp; omega)) _)
        clear bx
        generalize Wx3.setRow N1 (stA g) = Wx4 at *
        refine hK.out _ _ hH (fun _ => ?_)
        clear hK K
        try simp only [Act.put, List.setIfInBounds_toArray, List.set_cons_zero, List.set_cons_succ, List.getElem_toArray, List.getElem_cons_succ, List.getElem_cons_zero]
        refine wpAnyH_ready (rs := [19]) (by kernel_rfl) (by simp) ?_
        refine AllReadyH.cons rfl (fun K hK => ?_) AllReadyH.nil
        refine want_plain rfl ?_
        refine wp_store_row _ _ _ rfl N2 #[.int .i64 1, .int .u32 0, .int .u32 a, .int .i64 t] rfl rfl 42 #[.int .i64 0, .int .u32 0, .int .u32 0, .int .i64 0] kF.h szF rfl (by simp [Value.oneCell']) ?_
        have bx := (But.refl [N2] Wx4.heap.size Wx4).setRow (g := N2) (by simp) #[.int .i64 1, .int .u32 0, .int .u32 a, .int .i64 t]
        replace kF := kF.row #[.int .i64 1, .int .u32 0, .int .u32 a, .int .i64 t]
        replace kU := kU.but bx kU.lt (by have := uf.out; simp; omega)
        replace hG := hG.but bx (by have := nkF.out; simp; omega) (by have := gkF.out; simp; omega)
        replace hH := And.intro (Exists.intro _ hG) (hH.2.but bx hH.2.lt (by have := mkF.out; simp; omega))
        replace b0 := b0.trans (But.of (bx.below b0.size (by have := mkF.out; simp; omega)) _)
        clear bx
        generalize Wx4.setRow N2 #[.int .i64 1, .int .u32 0, .int .u32 a, .int .i64 t] = Wx5 at *
        refine hK.out _ _ hH (fun _ => ?_)
        clear hK K
        try simp only [Act.put, List.setIfInBounds_toArray, List.set_cons_zero, List.set_cons_succ, List.getElem_toArray, List.getElem_cons_succ, List.getElem_cons_zero]
        refine wpAnyH_take (i := 20) (v := .bool false) rfl (by kernel_rfl) (by kernel_rfl) (by kernel_rfl) (fun _ _ _ h => h) (Or.inl ⟨by kernel_rfl, ?_⟩) hH ?_
        · intro W hS
          go_simp
          try rfl
        try simp only [Act.put, List.setIfInBounds_toArray, List.set_cons_zero, List.set_cons_succ, List.getElem_toArray, List.getElem_cons_succ, List.getElem_cons_zero]
        refine wpAnyH_done (by kernel_rfl) ?_ _
        exact ⟨N1, N2, by kernel_rfl, kU, kF, hG, b0, gkU.out, gkF.out⟩
    · go_simp
      have kU := Blk.new W 29 #[.int .u32 0, .int .u32 0, .int .u32 0, .int .u32 0, .int .u32 0, .int .u32 0, .int .u32 0, .int .u32 0, .int .u32 0, .bool false, .bool false, .bool false, .bool false, .bool false, .bool false, .bool false, .int .u64 0]
      have bx := (Below.refl W.heap.size W).alloc (Nat.le_refl _) (.cells #[.int .u32 0, .int .u32 0, .int .u32 0, .int .u32 0, .int .u32 0, .int .u32 0, .int .u32 0, .int .u32 0, .int .u32 0, .bool false, .bool false, .bool false, .bool false, .bool false, .bool false, .bool false, .int .u64 0] 29)
      have mkU := Lib.hid (show w.heap.size < W.heap.size from Nat.lt_of_lt_of_le hH.2.lt (Nat.le_refl _))
      have nkU := Lib.hid (show B < W.heap.size from hG.p.lt)
      have gkU := Lib.hid (show G < W.heap.size from hG.c.lt)
      replace b0 := b0.trans (But.of (bx.mono b0.size) _)
      replace hG := hG.below bx
      replace hH := And.intro (Exists.intro _ hG) (hH.2.below bx hH.2.lt)
      clear bx
      generalize W.alloc (.cells #[.int .u32 0, .int .u32 0, .int .u32 0, .int .u32 0, .int .u32 0, .int .u32 0, .int .u32 0, .int .u32 0, .int .u32 0, .bool false, .bool false, .bool false, .bool false, .bool false, .bool false, .bool false, .int .u64 0] 29) = Wx1 at *
      generalize W.heap.size = N1 at *
      refine hK.out _ _ hH (fun _ => ?_)
      clear hK K
      try simp only [Act.put, List.setIfInBounds_toArray, List.set_cons_zero, List.set_cons_succ, List.getElem_toArray, List.getElem_cons_succ, List.getElem_cons_zero]
      refine wpAnyH_ready (rs := [11, 17]) (by kernel_rfl) (by simp) ?_
      refine AllReadyH.cons rfl (fun K hK => ?_) (AllReadyH.cons rfl (fun K hK => ?_) AllReadyH.nil)
      · go_simp
        with_reducible refine (hR.out _ hG.p).mono ?_
        rintro e Wx2 ⟨rfl, bx⟩
        replace b0 := b0.trans (But.of (bx.mono b0.size) _)
        replace hG := hG.below bx
        replace hH := And.intro (Exists.intro _ hG) (hH.2.below bx hH.2.lt)
        replace kU := kU.below bx kU.lt
        clear bx
        refine hK.out _ _ hH (fun _ => ?_)
        clear hK K
        try simp only [Act.put, List.setIfInBounds_toArray, List.set_cons_zero, List.set_cons_succ, List.getElem_toArray, List.getElem_cons_succ, List.getElem_cons_zero]
        refine wpAnyH_take (i := 12) (v := .tuple #[stV g, fltV 1 0 a t, .bool false]) rfl (by kernel_rfl) (by kernel_rfl) (by kernel_rfl) (fun _ _ _ h => h) (Or.inl ⟨by kernel_rfl, ?_⟩) hH ?_
        · intro W hS
          go_simp
          try rfl
        try simp only [Act.put, List.setIfInBounds_toArray, List.set_cons_zero, List.set_cons_succ, List.getElem_toArray, List.getElem_cons_succ, List.getElem_cons_zero]
        refine wpAnyH_take (i := 13) (v := stV g) rfl (by kernel_rfl) (by kernel_rfl) (by kernel_rfl) (fun _ _ _ h => h) (Or.inl ⟨by kernel_rfl, ?_⟩) hH ?_
        · intro W hS
          go_simp
          try rfl
        try simp only [Act.put, List.setIfInBounds_toArray, List.set_cons_zero, List.set_cons_succ, List.getElem_toArray, List.getElem_cons_succ, List.getElem_cons_zero]
        refine wpAnyH_take (i := 14) (v := fltV 1 0 a t) rfl (by kernel_rfl) (by kernel_rfl) (by kernel_rfl) (fun _ _ _ h => h) (Or.inl ⟨by kernel_rfl, ?_⟩) hH ?_
        · intro W hS
          go_simp
          try rfl
        try simp only [Act.put, List.setIfInBounds_toArray, List.set_cons_zero, List.set_cons_succ, List.getElem_toArray, List.getElem_cons_succ, List.getElem_cons_zero]
        refine wpAnyH_take (i := 15) (v := .bool false) rfl (by kernel_rfl) (by kernel_rfl) (by kernel_rfl) (fun _ _ _ h => h) (Or.inl ⟨by kernel_rfl, ?_⟩) hH ?_
        · intro W hS
          go_simp
          try rfl
        try simp only [Act.put, List.setIfInBounds_toArray, List.set_cons_zero, List.set_cons_succ, List.getElem_toArray, List.getElem_cons_succ, List.getElem_cons_zero]
        refine wpAnyH_ready (rs := [17]) (by kernel_rfl) (by simp) ?_
        refine AllReadyH.cons rfl (fun K hK => ?_) AllReadyH.nil
        go_simp
        have kF := Blk.new Wx2 42 #[.int .i64 0, .int .u32 0, .int .u32 0, .int .i64 0]
        have bx := (Below.refl Wx2.heap.size Wx2).alloc (Nat.le_refl _) (.cells #[.int .i64 0, .int .u32 0, .int .u32 0, .int .i64 0] 42)
        have mkF := Lib.hid (show w.heap.size < Wx2.heap.size from Nat.lt_of_lt_of_le hH.2.lt (Nat.le_refl _))
        have nkF := Lib.hid (show B < Wx2.heap.size from hG.p.lt)
        have gkF := Lib.hid (show G < Wx2.heap.size from hG.c.lt)
        have uf := Lib.hid (show N1 ≠ Wx2.heap.size from Nat.ne_of_lt kU.lt)
        replace b0 := b0.trans (But.of (bx.mono b0.size) _)
        replace hG := hG.below bx
        replace hH := And.intro (Exists.intro _ hG) (hH.2.below bx hH.2.lt)
        replace kU := kU.below bx kU.lt
        clear bx
        generalize Wx2.alloc (.cells #[.int .i64 0, .int .u32 0, .int .u32 0, .int .i64 0] 42) = Wx3 at *
        generalize Wx2.heap.size = N2 at *
        refine hK.out _ _ hH (fun _ => ?_)
        clear hK K
        try simp only [Act.put, List.setIfInBounds_toArray, List.set_cons_zero, List.set_cons_succ, List.getElem_toArray, List.getElem_cons_succ, List.getElem_cons_zero]
        refine wpAnyH_ready (rs := [18]) (by kernel_rfl) (by simp) ?_
        refine AllReadyH.cons rfl (fun K hK => ?_) AllReadyH.nil
        refine want_plain rfl ?_
        refine wp_store_row _ _ _ rfl N1 (stA g) rfl rfl 29 #[.int .u32 0, .int .u32 0, .int .u32 0, .int .u32 0, .int .u32 0, .int .u32 0, .int .u32 0, .int .u32 0, .int .u32 0, .bool false, .bool false, .bool false, .bool false, .bool false, .bool false, .bool false, .int .u64 0] kU.h szS rfl (stA_oneT _) ?_
        have bx := (But.refl [N1] Wx3.heap.size Wx3).setRow (g := N1) (by simp) (stA g)
        replace kU := kU.row (stA g)
        replace kF := kF.but bx kF.lt (by have := uf.out; simp; omega)
        replace hG := hG.but bx (by have := nkU.out; simp; omega) (by have := gkU.out; simp; omega)
        replace hH := And.intro (Exists.intro _ hG) (hH.2.but bx hH.2.lt (by have := mkU.out; simp; omega))
        replace b0 := b0.trans (But.of (bx.below b0.size (by have := mkU.out; simp; omega)) _)
        clear bx
        generalize Wx3.setRow N1 (stA g) = Wx4 at *
        refine hK.out _ _ hH (fun _ => ?_)
        clear hK K
        try simp only [Act.put, List.setIfInBounds_toArray, List.set_cons_zero, List.set_cons_succ, List.getElem_toArray, List.getElem_cons_succ, List.getElem_cons_zero]
        refine wpAnyH_ready (rs := [19]) (by kernel_rfl) (by simp) ?_
        refine AllReadyH.cons rfl (fun K hK => ?_) AllReadyH.nil
        refine want_plain rfl ?_
        refine wp_store_row _ _ _ rfl N2 #[.int .i64 1, .int .u32 0, .int .u32 a, .int .i64 t] rfl rfl 42 #[.int .i64 0, .int .u32 0, .int .u32 0, .int .i64 0] kF.h szF rfl (by simp [Value.oneCell']) ?_
        have bx := (But.refl [N2] Wx4.heap.size Wx4).setRow (g := N2) (by simp) #[.int .i64 1, .int .u32 0, .int .u32 a, .int .i64 t]
        replace kF := kF.row #[.int .i64 1, .int .u32 0, .int .u32 a, .int .i64 t]
        replace kU := kU.but bx kU.lt (by have := uf.out; simp; omega)
        replace hG := hG.but bx (by have := nkF.out; simp; omega) (by have := gkF.out; simp; omega)
        replace hH := And.intro (Exists.intro _ hG) (hH.2.but bx hH.2.lt (by have := mkF.out; simp; omega))
        replace b0 := b0.trans (But.of (bx.below b0.size (by have := mkF.out; simp; omega)) _)
        clear bx
        generalize Wx4.setRow N2 #[.int .i64 1, .int .u32 0, .int .u32 a, .int .i64 t] = Wx5 at *
        refine hK.out _ _ hH (fun _ => ?_)
        clear hK K
        try simp only [Act.put, List.setIfInBounds_toArray, List.set_cons_zero, List.set_cons_succ, List.getElem_toArray, List.getElem_cons_succ, List.getElem_cons_zero]
        refine wpAnyH_take (i := 20) (v := .bool false) rfl (by kernel_rfl) (by kernel_rfl) (by kernel_rfl) (fun _ _ _ h => h) (Or.inl ⟨by kernel_rfl, ?_⟩) hH ?_
        · intro W hS
          go_simp
          try rfl
        try simp only [Act.put, List.setIfInBounds_toArray, List.set_cons_zero, List.set_cons_succ, List.getElem_toArray, List.getElem_cons_succ, List.getElem_cons_zero]
        refine wpAnyH_done (by kernel_rfl) ?_ _
        exact ⟨N1, N2, by kernel_rfl, kU, kF, hG, b0, gkU.out, gkF.out⟩
      · go_simp
        have kF := Blk.new Wx1 42 #[.int .i64 0, .int .u32 0, .int .u32 0, .int .i64 0]
        have bx := (Below.refl Wx1.heap.size Wx1).alloc (Nat.le_refl _) (.cells #[.int .i64 0, .int .u32 0, .int .u32 0, .int .i64 0] 42)
        have mkF := Lib.hid (show w.heap.size < Wx1.heap.size from Nat.lt_of_lt_of_le hH.2.lt (Nat.le_refl _))
        have nkF := Lib.hid (show B < Wx1.heap.size from hG.p.lt)
        have gkF := Lib.hid (show G < Wx1.heap.size from hG.c.lt)
        have uf := Lib.hid (show N1 ≠ Wx1.heap.size from Nat.ne_of_lt kU.lt)
        replace b0 := b0.trans (But.of (bx.mono b0.size) _)
        replace hG := hG.below bx
        replace hH := And.intro (Exists.intro _ hG) (hH.2.below bx hH.2.lt)
        replace kU := kU.below bx kU.lt
        clear bx
        generalize Wx1.alloc (.cells #[.int .i64 0, .int .u32 0, .int .u32 0, .int .i64 0] 42) = Wx2 at *
        generalize Wx1.heap.size = N2 at *
        refine hK.out _ _ hH (fun _ => ?_)
        clear hK K
        try simp only [Act.put, List.setIfInBounds_toArray, List.set_cons_zero, List.set_cons_succ, List.getElem_toArray, List.getElem_cons_succ, List.getElem_cons_zero]
        refine wpAnyH_ready (rs := [11]) (by kernel_rfl) (by simp) ?_
        refine AllReadyH.cons rfl (fun K hK => ?_) AllReadyH.nil
        go_simp
        with_reducible refine (hR.out _ hG.p).mono ?_
        rintro e Wx3 ⟨rfl, bx⟩
        replace b0 := b0.trans (But.of (bx.mono b0.size) _)
        replace hG := hG.below bx
        replace hH := And.intro (Exists.intro _ hG) (hH.2.below bx hH.2.lt)
        replace kU := kU.below bx kU.lt
        replace kF := kF.below bx kF.lt
        clear bx
        refine hK.out _ _ hH (fun _ => ?_)
        clear hK K
        try simp only [Act.put, List.setIfInBounds_toArray, List.set_cons_zero, List.set_cons_succ, List.getElem_toArray, List.getElem_cons_succ, List.getElem_cons_zero]
        refine wpAnyH_take (i := 12) (v := .tuple #[stV g, fltV 1 0 a t, .bool false]) rfl (by kernel_rfl) (by kernel_rfl) (by kernel_rfl) (fun _ _ _ h => h) (Or.inl ⟨by kernel_rfl, ?_⟩) hH ?_
        · intro W hS
          go_simp
          try rfl
        try simp only [Act.put, List.setIfInBounds_toArray, List.set_cons_zero, List.set_cons_succ, List.getElem_toArray, List.getElem_cons_succ, List.getElem_cons_zero]
        refine wpAnyH_take (i := 13) (v := stV g) rfl (by kernel_rfl) (by kernel_rfl) (by kernel_rfl) (fun _ _ _ h => h) (Or.inl ⟨by kernel_rfl, ?_⟩) hH ?_
        · intro W hS
          go_simp
          try rfl
        try simp only [Act.put, List.setIfInBounds_toArray, List.set_cons_zero, List.set_cons_succ, List.getElem_toArray, List.getElem_cons_succ, List.getElem_cons_zero]
        refine wpAnyH_take (i := 14) (v := fltV 1 0 a t) rfl (by kernel_rfl) (by kernel_rfl) (by kernel_rfl) (fun _ _ _ h => h) (Or.inl ⟨by kernel_rfl, ?_⟩) hH ?_
        · intro W hS
          go_simp
          try rfl
        try simp only [Act.put, List.setIfInBounds_toArray, List.set_cons_zero, List.set_cons_succ, List.getElem_toArray, List.getElem_cons_succ, List.getElem_cons_zero]
        refine wpAnyH_take (i := 15) (v := .bool false) rfl (by kernel_rfl) (by kernel_rfl) (by kernel_rfl) (fun _ _ _ h => h) (Or.inl ⟨by kernel_rfl, ?_⟩) hH ?_
        · intro W hS
          go_simp
          try rfl
        try simp only [Act.put, List.setIfInBounds_toArray, List.set_cons_zero, List.set_cons_succ, List.getElem_toArray, List.getElem_cons_succ, List.getElem_cons_zero]
        refine wpAnyH_ready (rs := [18]) (by kernel_rfl) (by simp) ?_
        refine AllReadyH.cons rfl (fun K hK => ?_) AllReadyH.nil
        refine want_plain rfl ?_
        refine wp_store_row _ _ _ rfl N1 (stA g) rfl rfl 29 #[.int .u32 0, .int .u32 0, .int .u32 0, .int .u32 0, .int .u32 0, .int .u32 0, .int .u32 0, .int .u32 0, .int .u32 0, .bool false, .bool false, .bool false, .bool false, .bool false, .bool false, .bool false, .int .u64 0] kU.h szS rfl (stA_oneT _) ?_
        have bx := (But.refl [N1] Wx3.heap.size Wx3).setRow (g := N1) (by simp) (stA g)
        replace kU := kU.row (stA g)
        replace kF := kF.but bx kF.lt (by have := uf.out; simp; omega)
        replace hG := hG.but bx (by have := nkU.out; simp; omega) (by have := gkU.out; simp; omega)
        replace hH := And.intro (Exists.intro _ hG) (hH.2.but bx hH.2.lt (by have := mkU.out; simp; omega))
        replace b0 := b0.trans (But.of (bx.below b0.size (by have := mkU.out; simp; omega)) _)
        clear bx
        generalize Wx3.setRow N1 (stA g) = Wx4 at *
        refine hK.out _ _ hH (fun _ => ?_)
        clear hK K
        try simp only [Act.put, List.setIfInBounds_toArray, List.set_cons_zero, List.set_cons_succ, List.getElem_toArray, List.getElem_cons_succ, List.getElem_cons_zero]
        refine wpAnyH_ready (rs := [19]) (by kernel_rfl) (by simp) ?_
        refine AllReadyH.cons rfl (fun K hK => ?_) AllReadyH.nil
        refine want_plain rfl ?_
        refine wp_store_row _ _ _ rfl N2 #[.int .i64 1, .int .u32 0, .int .u32 a, .int .i64 t] rfl rfl 42 #[.int .i64 0, .int .u32 0, .int .u32 0, .int .i64 0] kF.h szF rfl (by simp [Value.oneCell']) ?_
        have bx := (But.refl [N2] Wx4.heap.size Wx4).setRow (g := N2) (by simp) #[.int .i64 1, .int .u32 0, .int .u32 a, .int .i64 t]
        replace kF := kF.row #[.int .i64 1, .int .u32 0, .int .u32 a, .int .i64 t]
        replace kU := kU.but bx kU.lt (by have := uf.out; simp; omega)
        replace hG := hG.but bx (by have := nkF.out; simp; omega) (by have := gkF.out; simp; omega)
        replace hH := And.intro (Exists.intro _ hG) (hH.2.but bx hH.2.lt (by have := mkF.out; simp; omega))
        replace b0 := b0.trans (But.of (bx.below b0.size (by have := mkF.out; simp; omega)) _)
        clear bx
        generalize Wx4.setRow N2 #[.int .i64 1, .int .u32 0, .int .u32 a, .int .i64 t] = Wx5 at *
        refine hK.out _ _ hH (fun _ => ?_)
        clear hK K
        try simp only [Act.put, List.setIfInBounds_toArray, List.set_cons_zero, List.set_cons_succ, List.getElem_toArray, List.getElem_cons_succ, List.getElem_cons_zero]
        refine wpAnyH_take (i := 20) (v := .bool false) rfl (by kernel_rfl) (by kernel_rfl) (by kernel_rfl) (fun _ _ _ h => h) (Or.inl ⟨by kernel_rfl, ?_⟩) hH ?_
        · intro W hS
          go_simp
          try rfl
        try simp only [Act.put, List.setIfInBounds_toArray, List.set_cons_zero, List.set_cons_succ, List.getElem_toArray, List.getElem_cons_succ, List.getElem_cons_zero]
        refine wpAnyH_done (by kernel_rfl) ?_ _
        exact ⟨N1, N2, by kernel_rfl, kU, kF, hG, b0, gkU.out, gkF.out⟩
    · go_simp
      have kF := Blk.new W 42 #[.int .i64 0, .int .u32 0, .int .u32 0, .int .i64 0]
      have bx := (Below.refl W.heap.size W).alloc (Nat.le_refl _) (.cells #[.int .i64 0, .int .u32 0, .int .u32 0, .int .i64 0] 42)
      have mkF := Lib.hid (show w.heap.size < W.heap.size from Nat.lt_of_lt_of_le hH.2.lt (Nat.le_refl _))
      have nkF := Lib.hid (show B < W.heap.size from hG.p.lt)
      have gkF := Lib.hid (show G < W.heap.size from hG.c.lt)
      replace b0 := b0.trans (But.of (bx.mono b0.size) _)
      replace hG := hG.below bx
      replace hH := And.intro (Exists.intro _ hG) (hH.2.below bx hH.2.lt)
      clear bx
      generalize W.alloc (.cells #[.int .i64 0, .int .u32 0, .int .u32 0, .int .i64 0] 42) = Wx1 at *
      generalize W.heap.size = N2 at *
      refine hK.out _ _ hH (fun _ => ?_)
      clear hK K
      try simp only [Act.put, List.setIfInBounds_toArray, List.set_cons_zero, List.set_cons_succ, List.getElem_toArray, List.getElem_cons_succ, List.getElem_cons_zero]
      refine wpAnyH_ready (rs := [11, 16]) (by kernel_rfl) (by simp) ?_
      refine AllReadyH.cons rfl (fun K hK => ?_) (AllReadyH.cons rfl (fun K hK => ?_) AllReadyH.nil)
      · go_simp
        with_reducible refine (hR.out _ hG.p).mono ?_
        rintro e Wx2 ⟨rfl, bx⟩
        replace b0 := b0.trans (But.of (bx.mono b0.size) _)
        replace hG := hG.below bx
        replace hH := And.intro (Exists.intro _ hG) (hH.2.below bx hH.2.lt)
        replace kF := kF.below bx kF.lt
        clear bx
        refine hK.out _ _ hH (fun _ => ?_)
        clear hK K
        try simp only [Act.put, List.setIfInBounds_toArray, List.set_cons_zero, List.set_cons_succ, List.getElem_toArray, List.getElem_cons_succ, List.getElem_cons_zero]
        refine wpAnyH_take (i := 12) (v := .tuple #[stV g, fltV 1 0 a t, .bool false]) rfl (by kernel_rfl) (by kernel_rfl) (by kernel_rfl) (fun _ _ _ h => h) (Or.inl ⟨by kernel_rfl, ?_⟩) hH ?_
        · intro W hS
          go_simp
          try rfl
        try simp only [Act.put, List.setIfInBounds_toArray, List.set_cons_zero, List.set_cons_succ, List.getElem_toArray, List.getElem_cons_succ, List.getElem_cons_zero]
        refine wpAnyH_take (i := 13) (v := stV g) rfl (by kernel_rfl) (by kernel_rfl) (by kernel_rfl) (fun _ _ _ h => h) (Or.inl ⟨by kernel_rfl, ?_⟩) hH ?_
        · intro W hS
          go_simp
          try rfl
        try simp only [Act.put, List.setIfInBounds_toArray, List.set_cons_zero, List.set_cons_succ, List.getElem_toArray, List.getElem_cons_succ, List.getElem_cons_zero]
        refine wpAnyH_take (i := 14) (v := fltV 1 0 a t) rfl (by kernel_rfl) (by kernel_rfl) (by kernel_rfl) (fun _ _ _ h => h) (Or.inl ⟨by kernel_rfl, ?_⟩) hH ?_
        · intro W hS
          go_simp
          try rfl
        try simp only [Act.put, List.setIfInBounds_toArray, List.set_cons_zero, List.set_cons_succ, List.getElem_toArray, List.getElem_cons_succ, List.getElem_cons_zero]
        refine wpAnyH_take (i := 15) (v := .bool false) rfl (by kernel_rfl) (by kernel_rfl) (by kernel_rfl) (fun _ _ _ h => h) (Or.inl ⟨by kernel_rfl, ?_⟩) hH ?_
        · intro W hS
          go_simp
          try rfl
        try simp only [Act.put, List.setIfInBounds_toArray, List.set_cons_zero, List.set_cons_succ, List.getElem_toArray, List.getElem_cons_succ, List.getElem_cons_zero]
        refine wpAnyH_ready (rs := [16]) (by kernel_rfl) (by simp) ?_
        refine AllReadyH.cons rfl (fun K hK => ?_) AllReadyH.nil
        go_simp
        have kU := Blk.new Wx2 29 #[.int .u32 0, .int .u32 0, .int .u32 0, .int .u32 0, .int .u32 0, .int .u32 0, .int .u32 0, .int .u32 0, .int .u32 0, .bool false, .bool false, .bool false, .bool false, .bool false, .bool false, .bool false, .int .u64 0]
        have bx := (Below.refl Wx2.heap.size Wx2).alloc (Nat.le_refl _) (.cells #[.int .u32 0, .int .u32 0, .int .u32 0, .int .u32 0, .int .u32 0, .int .u32 0, .int .u32 0, .int .u32 0, .int .u32 0, .bool false, .bool false, .bool false, .bool false, .bool false, .bool false, .bool false, .int .u64 0] 29)
        have mkU := Lib.hid (show w.heap.size < Wx2.heap.size from Nat.lt_of_lt_of_le hH.2.lt (Nat.le_refl _))
        have nkU := Lib.hid (show B < Wx2.heap.size from hG.p.lt)
        have gkU := Lib.hid (show G < Wx2.heap.size from hG.c.lt)
        have uf := Lib.hid (show N2 ≠ Wx2.heap.size from Nat.ne_of_lt kF.lt)
        replace b0 := b0.trans (But.of (bx.mono b0.size) _)
        replace hG := hG.below bx
        replace hH := And.intro (Exists.intro _ hG) (hH.2.below bx hH.2.lt)
        replace kF := kF.below bx kF.lt
        clear bx
        generalize Wx2.alloc (.cells #[.int .u32 0, .int .u32 0, .int .u32 0, .int .u32 0, .int .u32 0, .int .u32 0, .int .u32 0, .int .u32 0, .int .u32 0, .bool false, .bool false, .bool false, .bool false, .bool false, .bool false, .bool false, .int .u64 0] 29) = Wx3 at *
        generalize Wx2.heap.size = N1 at *
        refine hK.out _ _ hH (fun _ => ?_)
        clear hK K
        try simp only [Act.put, List.setIfInBounds_toArray, List.set_cons_zero, List.set_cons_succ, List.getElem_toArray, List.getElem_cons_succ, List.getElem_cons_zero]
        refine wpAnyH_ready (rs := [18]) (by kernel_rfl) (by simp) ?_
        refine AllReadyH.cons rfl (fun K hK => ?_) AllReadyH.nil
        refine want_plain rfl ?_
        refine wp_store_row _ _ _ rfl N1 (stA g) rfl rfl 29 #[.int .u32 0, .int .u32 0, .int .u32 0, .int .u32 0, .int .u32 0, .int .u32 0, .int .u32 0, .int .u32 0, .int .u32 0, .bool false, .bool false, .bool false, .bool false, .bool false, .bool false, .bool false, .int .u64 0] kU.h szS rfl (stA_oneT _) ?_
        have bx := (But.refl [N1] Wx3.heap.size Wx3).setRow (g := N1) (by simp) (stA g)
        replace kU := kU.row (stA g)
        replace kF := kF.but bx kF.lt (by have := uf.out; simp; omega)
        replace hG := hG.but bx (by have := nkU.out; simp; omega) (by have := gkU.out; simp; omega)
        replace hH := And.intro (Exists.intro _ hG) (hH.2.but bx hH.2.lt (by have := mkU.out; simp; omega))
        replace b0 := b0.trans (But.of (bx.below b0.size (by have := mkU.out; simp; omega)) _)
        clear bx
        generalize Wx3.setRow N1 (stA g) = Wx4 at *
        refine hK.out _ _ hH (fun _ => ?_)
        clear hK K
        try simp only [Act.put, List.setIfInBounds_toArray, List.set_cons_zero, List.set_cons_succ, List.getElem_toArray, List.getElem_cons_succ, List.getElem_cons_zero]
        refine wpAnyH_ready (rs := [19]) (by kernel_rfl) (by simp) ?_
        refine AllReadyH.cons rfl (fun K hK => ?_) AllReadyH.nil
        refine want_plain rfl ?_
        refine wp_store_row _ _ _ rfl N2 #[.int .i64 1, .int .u32 0, .int .u32 a, .int .i64 t] rfl rfl 42 #[.int .i64 0, .int .u32 0, .int .u32 0, .int .i64 0] kF.h szF rfl (by simp [Value.oneCell']) ?_
        have bx := (But.refl [N2] Wx4.heap.size Wx4).setRow (g := N2) (by simp) #[.int .i64 1, .int .u32 0, .int .u32 a, .int .i64 t]
        replace kF := kF.row #[.int .i64 1, .int .u32 0, .int .u32 a, .int .i64 t]
        replace kU := kU.but bx kU.lt (by have := uf.out; simp; omega)
        replace hG := hG.but bx (by have := nkF.out; simp; omega) (by have := gkF.out; simp; omega)
        replace hH := And.intro (Exists.intro _ hG) (hH.2.but bx hH.2.lt (by have := mkF.out; simp; omega))
        replace b0 := b0.trans (But.of (bx.below b0.size (by have := mkF.out; simp; omega)) _)
        clear bx
        generalize Wx4.setRow N2 #[.int .i64 1, .int .u32 0, .int .u32 a, .int .i64 t] = Wx5 at *
        refine hK.out _ _ hH (fun _ => ?_)
        clear hK K
        try simp only [Act.put, List.setIfInBounds_toArray, List.set_cons_zero, List.set_cons_succ, List.getElem_toArray, List.getElem_cons_succ, List.getElem_cons_zero]
        refine wpAnyH_take (i := 20) (v := .bool false) rfl (by kernel_rfl) (by kernel_rfl) (by kernel_rfl) (fun _ _ _ h => h) (Or.inl ⟨by kernel_rfl, ?_⟩) hH ?_
        · intro W hS
          go_simp
          try rfl
        try simp only [Act.put, List.setIfInBounds_toArray, List.set_cons_zero, List.set_cons_succ, List.getElem_toArray, List.getElem_cons_succ, List.getElem_cons_zero]
        refine wpAnyH_done (by kernel_rfl) ?_ _
        exact ⟨N1, N2, by kernel_rfl, kU, kF, hG, b0, gkU.out, gkF.out⟩
      · go_simp
        have kU := Blk.new Wx1 29 #[.int .u32 0, .int .u32 0, .int .u32 0, .int .u32 0, .int .u32 0, .int .u32 0, .int .u32 0, .int .u32 0, .int .u32 0, .bool false, .bool false, .bool false, .bool false, .bool false, .bool false, .bool false, .int .u64 0]
        have bx := (Below.refl Wx1.heap.size Wx1).alloc (Nat.le_refl _) (.cells #[.int .u32 0, .int .u32 0, .int .u32 0, .int .u32 0, .int .u32 0, .int .u32 0, .int .u32 0, .int .u32 0, .int .u32 0, .bool false, .bool false, .bool false, .bool false, .bool false, .bool false, .bool false, .int .u64 0] 29)
        have mkU := Lib.hid (show w.heap.size < Wx1.heap.size from Nat.lt_of_lt_of_le hH.2.lt (Nat.le_refl _))
        have nkU := Lib.hid (show B < Wx1.heap.size from hG.p.lt)
        have gkU := Lib.hid (show G < Wx1.heap.size from hG.c.lt)
        have uf := Lib.hid (show N2 ≠ Wx1.heap.size from Nat.ne_of_lt kF.lt)
        replace b0 := b0.trans (But.of (bx.mono b0.size) _)
        replace hG := hG.below bx
        replace hH := And.intro (Exists.intro _ hG) (hH.2.below bx hH.2.lt)
        replace kF := kF.below bx kF.lt
        clear bx
        generalize Wx1.alloc (.cells #[.int .u32 0, .int .u32 0, .int .u32 0, .int .u32 0, .int .u32 0, .int .u32 0, .int .u32 0, .int .u32 0, .int .u32 0, .bool false, .bool false, .bool false, .bool false, .bool false, .bool false, .bool false, .int .u64 0] 29) = Wx2 at *
        generalize Wx1.heap.size = N1 at *
        refine hK.out _ _ hH (fun _ => ?_)
        clear hK K
        try simp only [Act.put, List.setIfInBounds_toArray, List.set_cons_zero, List.set_cons_succ, List.getElem_toArray, List.getElem_cons_succ, List.getElem_cons_zero]
        refine wpAnyH_ready (rs := [11]) (by kernel_rfl) (by simp) ?_
        refine AllReadyH.cons rfl (fun K hK => ?_) AllReadyH.nil
        go_simp
        with_reducible refine (hR.out _ hG.p).mono ?_
        rintro e Wx3 ⟨rfl, bx⟩
        replace b0 := b0.trans (But.of (bx.mono b0.size) _)
        replace hG := hG.below bx
        replace hH := And.intro (Exists.intro _ hG) (hH.2.below bx hH.2.lt)
        replace kU := kU.below bx kU.lt
        replace kF := kF.below bx kF.lt
        clear bx
        refine hK.out _ _ hH (fun _ => ?_)
        clear hK K
        try simp only [Act.put, List.setIfInBounds_toArray, List.set_cons_zero, List.set_cons_succ, List.getElem_toArray, List.getElem_cons_succ, List.getElem_cons_zero]
        refine wpAnyH_take (i := 12) (v := .tuple #[stV g, fltV 1 0 a t, .bool false]) rfl (by kernel_rfl) (by kernel_rfl) (by kernel_rfl) (fun _ _ _ h => h) (Or.inl ⟨by kernel_rfl, ?_⟩) hH ?_
        · intro W hS
          go_simp
          try rfl
        try simp only [Act.put, List.setIfInBounds_toArray, List.set_cons_zero, List.set_cons_succ, List.getElem_toArray, List.getElem_cons_succ, List.getElem_cons_zero]
        refine wpAnyH_take (i := 13) (v := stV g) rfl (by kernel_rfl) (by kernel_rfl) (by kernel_rfl) (fun _ _ _ h => h) (Or.inl ⟨by kernel_rfl, ?_⟩) hH ?_
        · intro W hS
          go_simp
          try rfl
        try simp only [Act.put, List.setIfInBounds_toArray, List.set_cons_zero, List.set_cons_succ, List.getElem_toArray, List.getElem_cons_succ, List.getElem_cons_zero]
        refine wpAnyH_take (i := 14) (v := fltV 1 0 a t) rfl (by kernel_rfl) (by kernel_rfl) (by kernel_rfl) (fun _ _ _ h => h) (Or.inl ⟨by kernel_rfl, ?_⟩) hH ?_
        · intro W hS
          go_simp
          try rfl
        try simp only [Act.put, List.setIfInBounds_toArray, List.set_cons_zero, List.set_cons_succ, List.getElem_toArray, List.getElem_cons_succ, List.getElem_cons_zero]
        refine wpAnyH_take (i := 15) (v := .bool false) rfl (by kernel_rfl) (by kernel_rfl) (by kernel_rfl) (fun _ _ _ h => h) (Or.inl ⟨by kernel_rfl, ?_⟩) hH ?_
        · intro W hS
          go_simp
          try rfl
        try simp only [Act.put, List.setIfInBounds_toArray, List.set_cons_zero, List.set_cons_succ, List.getElem_toArray, List.getElem_cons_succ, List.getElem_cons_zero]
        refine wpAnyH_ready (rs := [18]) (by kernel_rfl) (by simp) ?_
        refine AllReadyH.cons rfl (fun K hK => ?_) AllReadyH.nil
        refine want_plain rfl ?_
        refine wp_store_row _ _ _ rfl N1 (stA g) rfl rfl 29 #[.int .u32 0, .int .u32 0, .int .u32 0, .int .u32 0, .int .u32 0, .int .u32 0, .int .u32 0, .int .u32 0, .int .u32 0, .bool false, .bool false, .bool false, .bool false, .bool false, .bool false, .bool false, .int .u64 0] kU.h szS rfl (stA_oneT _) ?_
        have bx := (But.refl [N1] Wx3.heap.size Wx3).setRow (g := N1) (by simp) (stA g)
        replace kU := kU.row (stA g)
        replace kF := kF.but bx kF.lt (by have := uf.out; simp; omega)
        replace hG := hG.but bx (by have := nkU.out; simp; omega) (by have := gkU.out; simp; omega)
        replace hH := And.intro (Exists.intro _ hG) (hH.2.but bx hH.2.lt (by have := mkU.out; simp; omega))
        replace b0 := b0.trans (But.of (bx.below b0.size (by have := mkU.out; simp; omega)) _)
        clear bx
        generalize Wx3.setRow N1 (stA g) = Wx4 at *
        refine hK.out _ _ hH (fun _ => ?_)
        clear hK K
        try simp only [Act.put, List.setIfInBounds_toArray, List.set_cons_zero, List.set_cons_succ, List.getElem_toArray, List.getElem_cons_succ, List.getElem_cons_zero]
        refine wpAnyH_ready (rs := [19]) (by kernel_rfl) (by simp) ?_
        refine AllReadyH.cons rfl (fun K hK => ?_) AllReadyH.nil
        refine want_plain rfl ?_
        refine wp_store_row _ _ _ rfl N2 #[.int .i64 1, .int .u32 0, .int .u32 a, .int .i64 t] rfl rfl 42 #[.int .i64 0, .int .u32 0, .int .u32 0, .int .i64 0] kF.h szF rfl (by simp [Value.oneCell']) ?_
        have bx := (But.refl [N2] Wx4.heap.size Wx4).setRow (g := N2) (by simp) #[.int .i64 1, .int .u32 0, .int .u32 a, .int .i64 t]
        replace kF := kF.row #[.int .i64 1, .int .u32 0, .int .u32 a, .int .i64 t]
        replace kU := kU.but bx kU.lt (by have := uf.out; simp; omega)
        replace hG := hG.but bx (by have := nkF.out; simp; omega) (by have := gkF.out; simp; omega)
        replace hH := And.intro (Exists.intro _ hG) (hH.2.but bx hH.2.lt (by have := mkF.out; simp; omega))
        replace b0 := b0.trans (But.of (bx.below b0.size (by have := mkF.out; simp; omega)) _)
        clear bx
        generalize Wx4.setRow N2 #[.int .i64 1, .int .u32 0, .int .u32 a, .int .i64 t] = Wx5 at *
        refine hK.out _ _ hH (fun _ => ?_)
        clear hK K
        try simp only [Act.put, List.setIfInBounds_toArray, List.set_cons_zero, List.set_cons_succ, List.getElem_toArray, List.getElem_cons_succ, List.getElem_cons_zero]
        refine wpAnyH_take (i := 20) (v := .bool false) rfl (by kernel_rfl) (by kernel_rfl) (by kernel_rfl) (fun _ _ _ h => h) (Or.inl ⟨by kernel_rfl, ?_⟩) hH ?_
        · intro W hS
          go_simp
          try rfl
        try simp only [Act.put, List.setIfInBounds_toArray, List.set_cons_zero, List.set_cons_succ, List.getElem_toArray, List.getElem_cons_succ, List.getElem_cons_zero]
        refine wpAnyH_done (by kernel_rfl) ?_ _
        exact ⟨N1, N2, by kernel_rfl, kU, kF, hG, b0, gkU.out, gkF.out⟩
  rintro a' Wq ⟨N1, N2, rfl, kU, kF, hG, bq, gU, gF⟩
  simp only [Act.put, List.setIfInBounds_toArray, List.set_cons_zero, List.set_cons_succ]
  have c0 := kF.cell (i := 0) rfl
  have c1 := kF.cell (i := 1) rfl
  have c2 := kF.cell (i := 2) rfl
  have c3 := kF.cell (i := 3) rfl
  go_wp2_with ((with_reducible refine (hM.out _).mono ?_); rintro e w1 ⟨rfl, b1⟩)
  exact ⟨rfl, rfl, (bq.below (Nat.le_refl _) (by simp)).trans (b1.mono bq.size)⟩
set_option maxRecDepth 20000 in
theorem gboth_yes {w : World} {G B : Nat} {g : Gs} {m : Mm} (h : GuAt w G B g m) (o : On) (hr : ∀ W, PAt W B m → Calls Tryz.prog 199 #[mp B, stV g, opV o, .int .i64 4, .int .i64 3] W fun e w' => e = .returned (.tuple #[fltV 0 0 0 0, .bool true]) ∧ Below W.heap.size W w') :
    Calls Tryz.prog 160 #[mp G, opV o] w fun e w' => e = .returned (.tuple #[]) ∧ Below w.heap.size w w' := by
  have hR := Lib.hid hr
  have hM := Lib.hid (fun W => must_yes 0 0 0 W)
  clear hr
  have b0 := (Below.refl w.heap.size w).alloc (Nat.le_refl _) (.cells (op6 o) 31)
  have kO := Blk.new w 31 (op6 o)
  have hg := h.below b0
  go_enter Tryz.func160, Tryz.ntmps160
  go_upto_region 1 with fail
  generalize w.alloc (.cells (op6 o) 31) = W0 at *
  refine wp_region_held_drew (S := fun V => GuAt V G B g m ∧ Blk V w.heap.size 31 (op6 o)) (by kernel_rfl) ⟨hg.drew, kO.drew⟩ (fun hH => ?_)
  replace b0 := b0.drew
  clear hg kO h
  generalize W0.drew = W at *
  refine wpAnyH_take (i := 0) (v := ?_) rfl (by kernel_rfl) (by kernel_rfl) (by kernel_rfl) (fun _ _ _ h => h) (Or.inl ⟨by kernel_rfl, ?_⟩) hH ?_
  rotate_left
  · intro W hS
    go_simp
    try rfl
  simp only [Act.put, List.setIfInBounds_toArray, List.set_cons_zero, List.set_cons_succ, List.getElem_toArray, List.getElem_cons_succ, List.getElem_cons_zero]
  refine wpAnyH_take (i := 1) (v := ?_) rfl (by kernel_rfl) (by kernel_rfl) (by kernel_rfl) (fun _ _ _ h => h) (Or.inl ⟨by kernel_rfl, ?_⟩) hH ?_
  rotate_left
  · intro W hS
    go_simp
    try rfl
  simp only [Act.put, List.setIfInBounds_toArray, List.set_cons_zero, List.set_cons_succ, List.getElem_toArray, List.getElem_cons_succ, List.getElem_cons_zero]
  refine wpAnyH_take (i := 2) (v := ?_) rfl (by kernel_rfl) (by kernel_rfl) (by kernel_rfl) (fun _ _ _ h => h) (Or.inl ⟨by kernel_rfl, ?_⟩) hH ?_
  rotate_left
  · intro W hS
    go_simp
    try rfl
  simp only [Act.put, List.setIfInBounds_toArray, List.set_cons_zero, List.set_cons_succ, List.getElem_toArray, List.getElem_cons_succ, List.getElem_cons_zero]
  refine wpAnyH_take (i := 3) (v := ?_) rfl (by kernel_rfl) (by kernel_rfl) (by kernel_rfl) (fun _ _ _ h => h) (Or.inl ⟨by kernel_rfl, ?_⟩) hH ?_
  rotate_left
  · intro W hS
    have c1 := hS.1.c.cell (i := 0) (v := mp B) rfl
    go_simp
    try rfl
  simp only [Act.put, List.setIfInBounds_toArray, List.set_cons_zero, List.set_cons_succ, List.getElem_toArray, List.getElem_cons_succ, List.getElem_cons_zero]
  refine wpAnyH_take (i := 4) (v := ?_) rfl (by kernel_rfl) (by kernel_rfl) (by kernel_rfl) (fun _ _ _ h => h) (Or.inl ⟨by kernel_rfl, ?_⟩) hH ?_
  rotate_left
  · intro W hS
    go_simp
    try rfl
  simp only [Act.put, List.setIfInBounds_toArray, List.set_cons_zero, List.set_cons_succ, List.getElem_toArray, List.getElem_cons_succ, List.getElem_cons_zero]
  refine wpAnyH_take (i := 5) (v := ?_) rfl (by kernel_rfl) (by kernel_rfl) (by kernel_rfl) (fun _ _ _ h => h) (Or.inl ⟨by kernel_rfl, ?_⟩) hH ?_
  rotate_left
  · intro W hS
    go_simp
    try rfl
  simp only [Act.put, List.setIfInBounds_toArray, List.set_cons_zero, List.set_cons_succ, List.getElem_toArray, List.getElem_cons_succ, List.getElem_cons_zero]
  refine wpAnyH_take (i := 6) (v := ?_) rfl (by kernel_rfl) (by kernel_rfl) (by kernel_rfl) (fun _ _ _ h => h) (Or.inl ⟨by kernel_rfl, ?_⟩) hH ?_
  rotate_left
  · intro W hS
    go_simp
    try rfl
  simp only [Act.put, List.setIfInBounds_toArray, List.set_cons_zero, List.set_cons_succ, List.getElem_toArray, List.getElem_cons_succ, List.getElem_cons_zero]
  refine wpAnyH_take (i := 7) (v := stV g) rfl (by kernel_rfl) (by kernel_rfl) (by kernel_rfl) (fun _ _ _ h => h) (Or.inl ⟨by kernel_rfl, ?_⟩) hH ?_
  · intro W hS
    exact run_load_gst (by rfl) (by rfl) hS.1
  simp only [Act.put, List.setIfInBounds_toArray, List.set_cons_zero, List.set_cons_succ]
  refine wpAnyH_take (i := 8) (v := opV o) rfl (by kernel_rfl) (by kernel_rfl) (by kernel_rfl) (fun _ _ _ h => h) (Or.inl ⟨by kernel_rfl, ?_⟩) hH ?_
  · intro W hS
    exact run_load_op (by rfl) (by rfl) hS.2
  simp only [Act.put, List.setIfInBounds_toArray, List.set_cons_zero, List.set_cons_succ]
  refine wpAnyH_ready (rs := [9]) (by kernel_rfl) (by simp) ?_
  refine AllReadyH.cons rfl (fun K hK => ?_) AllReadyH.nil
  go_simp
  with_reducible refine (hR.out _ hH.1.p).mono ?_
  rintro e w2 ⟨rfl, b2⟩
  have hH2 := And.intro (hH.1.below b2) (hH.2.below b2 hH.2.lt)
  replace b0 := b0.trans (b2.mono b0.size)
  refine hK.out _ _ hH2 (fun _ => ?_)
  clear hK K
  try simp only [Act.put, List.setIfInBounds_toArray, List.set_cons_zero, List.set_cons_succ]
  refine wpAnyH_take (i := 10) (v := ?_) rfl (by kernel_rfl) (by kernel_rfl) (by kernel_rfl) (fun _ _ _ h => h) (Or.inl ⟨by kernel_rfl, ?_⟩) hH2 ?_
  rotate_left
  · intro W hS
    go_simp
    try rfl
  simp only [Act.put, List.setIfInBounds_toArray, List.set_cons_zero, List.set_cons_succ, List.getElem_toArray, List.getElem_cons_succ, List.getElem_cons_zero]
  refine wpAnyH_take (i := 11) (v := ?_) rfl (by kernel_rfl) (by kernel_rfl) (by kernel_rfl) (fun _ _ _ h => h) (Or.inl ⟨by kernel_rfl, ?_⟩) hH2 ?_
  rotate_left
  · intro W hS
    go_simp
    try rfl
  simp only [Act.put, List.setIfInBounds_toArray, List.set_cons_zero, List.set_cons_succ, List.getElem_toArray, List.getElem_cons_succ, List.getElem_cons_zero]
  refine wpAnyH_ready (rs := [12]) (by kernel_rfl) (by simp) ?_
  refine AllReadyH.cons rfl (fun K hK => ?_) AllReadyH.nil
  go_simp
  with_reducible refine (hM.out _).mono ?_
  rintro e w3 ⟨rfl, b3⟩
  have hH3 := And.intro (hH2.1.below b3) (hH2.2.below b3 hH2.2.lt)
  replace b0 := b0.trans (b3.mono b0.size)
  refine hK.out _ _ hH3 (fun _ => ?_)
  clear hK K
  try simp only [Act.put, List.setIfInBounds_toArray, List.set_cons_zero, List.set_cons_succ]
  refine wpAnyH_done (by kernel_rfl) ?_ _
  go_wp2_with fail
  exact bodyPost_end (v := .tuple #[]) (by simp [results, Tryz.results160, go_sem]) rfl ⟨rfl, b0⟩
end Go.Proofs.YtcdoidnfdkodoaaGreatDoor
