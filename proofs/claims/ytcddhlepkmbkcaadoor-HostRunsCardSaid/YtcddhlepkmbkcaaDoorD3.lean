/- A step, whole. -/
import Derived.Test.YtcddhlepkmbkcaaDoorD2
import Derived.Deep.CutRange
namespace Go.Proofs.YtcddhlepkmbkcaaDoor
open Go.RowKit
set_option linter.unusedVariables false
set_option linter.unusedSimpArgs false
set_option linter.unusedSectionVars false

theorem But.setNew {S : List Nat} {n : Nat} {a w : World} (h : But S n a w) {p : Addr} (hp : n ≤ p.block) (u : Value) : But S n a (w.setCell p u) :=
  h.trans ⟨rfl, rfl, rfl, by simp [World.setCell], fun k hk hs => Below.heap_setCell _ _ _ _ (by omega)⟩
theorem Begun.set {w W : World} {B : Nat} {s : St} (h : Begun w W B s) (hB : B < w.heap.size) {L : Nat} (hL : w.heap.size + 2 ≤ L) (i : Nat) (v : Value) : Begun w (W.setCell ⟨L, i, none⟩ v) B s := by
  have c : ∀ k : Nat, k ≠ L → (W.setCell ⟨L, i, none⟩ v).cell? ⟨k, 0, none⟩ = W.cell? ⟨k, 0, none⟩ := fun k hk => World.cell?_of_block (w := W) (Below.heap_setCell _ _ _ _ hk)
  exact ⟨h.h.other (by omega), h.k.setNew (by simp; omega) _, (c _ (by omega)).trans h.cK, (World.frozen?_of_block (w := W) (Below.heap_setCell _ _ _ _ (by simp; omega))).trans h.fK, (c _ (by omega)).trans h.cL⟩
theorem Begun.set5 {w W : World} {B : Nat} {s : St} (h : Begun w W B s) (hB : B < w.heap.size) {L : Nat} (hL : w.heap.size + 2 ≤ L) (v0 v1 v2 v3 v4 : Value) :
    Begun w (((((W.setCell ⟨L, 0, none⟩ v0).setCell ⟨L, 1, none⟩ v1).setCell ⟨L, 2, none⟩ v2).setCell ⟨L, 3, none⟩ v3).setCell ⟨L, 4, none⟩ v4) B s :=
  ((((h.set hB hL 0 v0).set hB hL 1 v1).set hB hL 2 v2).set hB hL 3 v3).set hB hL 4 v4
theorem Begun.size {w W : World} {B : Nat} {s : St} (h : Begun w W B s) : w.heap.size + 2 ≤ W.heap.size := by
  have := size_of_cell h.cK; omega
theorem Begun.but {w W W' : World} {B : Nat} {s s' : St} (h : Begun w W B s) (hB : B < w.heap.size) (h' : HAt W' B s') (k : But [B] W.heap.size W W') : Begun w W' B s' := by
  have hz := h.size
  have c : ∀ b : Nat, b < W.heap.size → b ≠ B → W'.cell? ⟨b, 0, none⟩ = W.cell? ⟨b, 0, none⟩ := fun b hb hn => World.cell?_of_block (w := W) (k.block b hb (by simpa using hn))
  exact ⟨h', h.k.trans (k.mono (by omega) (by simp)), (c _ (by omega) (by omega)).trans h.cK, (World.frozen?_of_block (w := W) (k.block _ (by simp; omega) (by simp; omega))).trans h.fK, (c _ (by omega) (by omega)).trans h.cL⟩
theorem doL_halt {s : St} {op d a b i k p : Int} (h1 : 1 ≤ op) (h2 : op ≤ 47) (h : doL s op d a b i = .halt k p) : 0 ≤ p ∧ p ≤ 4294967295 := by
  rcases (by omega : op = 46 ∨ op = 47 ∨ op = 3 ∨ op = 4 ∨ (op = 5 ∨ op = 6 ∨ op = 7 ∨ op = 8 ∨ op = 9 ∨ op = 10) ∨ (op = 11 ∨ op = 12 ∨ op = 13 ∨ op = 14 ∨ op = 15) ∨ (op = 16 ∨ op = 17 ∨ op = 18) ∨ op = 2 ∨ (op = 1 ∨ 19 ≤ op ∧ op ≤ 45)) with rfl | rfl | rfl | rfl | hop | hop | hop | rfl | hop
  · rw [doL_46] at h; cases h
  · rw [doL_47] at h; cases h
  · rw [doL_3] at h; unfold jumpL at h; split at h <;> cases h; omega
  · rw [doL_4] at h; unfold jumpL at h; split at h <;> cases h; omega
  · rw [doL_br _ _ _ _ _ _ hop] at h
    split at h
    · split at h <;> cases h; omega
    · cases h
  · rw [doL_ld _ _ _ _ _ _ hop] at h; split at h <;> cases h; omega
  · rw [doL_st _ _ _ _ _ _ hop] at h; split at h <;> cases h; omega
  · rw [doL_2] at h; cases h
  · rw [doL_alu _ _ _ _ _ _ hop] at h; cases h
set_option maxHeartbeats 1000000 in
set_option maxRecDepth 20000 in
theorem Step_core {B : Nat} {s s' : St} {w : World} (h : HAt w B s) (tabs : Tabs w) (hf : fitsL s.pc 4 = true) (a0 a1 a2 a3 a4 k : Int) (ok : Bool)
    (he : wordO (wordM s.m s.pc 4) (decL (wordM s.m s.pc 4)) = .tuple #[wordV a0 a1 a2 a3 a4, .bool ok])
    (hno : ok = false → k = 6 ∧ s' = s) (hyes : ok = true → isL a0 a1 a2 a3 a4 = true ∧ (doL s a0 a1 a2 a3 a4).told s = (k, s')) :
    Calls Tryd.prog 15 #[hp B] w fun e w' => e = .returned (.int .i64 k) ∧ HAt w' B s' ∧ But [B] w.heap.size w w' := by
  have hmf : ∀ (fn : Fn) (first cap : Array Value) (w : World), (Instr.makeFunc fn first cap).run Tryd.prog w = .ok (.func fn first cap) w := fun _ _ _ _ => rfl
  have hb := Begun.of h
  have hlt := h.lt
  have bpc := h.ok.pc
  have lo := fun W (hW : Begun w W B s) => loaded_yes hW.h 5 s.pc 4 bpc hf
  have de := fun W (hW : Begun w W B s) => dec_any (wordM s.m s.pc 4) (wordM_bd h.ok.m _ _) W (tabs.but hW.k (by simpa using h.gl))
  rw [he] at de
  generalize wordM s.m s.pc 4 = x at lo de
  have hpc := h.pc
  go_enter_defers Tryd.func15, Tryd.ntmps15
  go_wp2_with fail
  go_cut [3, 4] from 3 to 15 (fun t3 t4 wx => ∃ L : Nat, t3 = .pointer (some ⟨L, 0, none⟩) ∧ t4 = .bool ok ∧ Begun w wx B s ∧ wx.cell? ⟨L, 0, none⟩ = some (.int .i64 a0) ∧ wx.cell? ⟨L, 1, none⟩ = some (.int .i64 a1) ∧ wx.cell? ⟨L, 2, none⟩ = some (.int .i64 a2) ∧ wx.cell? ⟨L, 3, none⟩ = some (.int .i64 a3) ∧ wx.cell? ⟨L, 4, none⟩ = some (.int .i32 a4))
  case first =>
    refine wp_region_held_drew (S := fun W => Begun w W B s) (by kernel_rfl) hb (fun hHeld => ?_)
    refine wpAnyH_take (i := 0) (v := hp B) rfl (by kernel_rfl) (by kernel_rfl) (by kernel_rfl) (post_slot 7 (by decide) _) (Or.inl ⟨by rfl, ?_⟩) hHeld ?_
    · intro W hS
      have s1 := hS.cL
      have s2 := hS.h.pc
      go_simp
    simp only [Act.put, List.setIfInBounds_toArray, List.set_cons_zero, List.set_cons_succ]
    refine wpAnyH_take (i := 1) (v := hp B) rfl (by kernel_rfl) (by kernel_rfl) (by kernel_rfl) (post_slot 8 (by decide) _) (Or.inl ⟨by rfl, ?_⟩) hHeld ?_
    · intro W hS
      have s1 := hS.cL
      have s2 := hS.h.pc
      go_simp
    simp only [Act.put, List.setIfInBounds_toArray, List.set_cons_zero, List.set_cons_succ]
    refine wpAnyH_take (i := 2) (v := hp B) rfl (by kernel_rfl) (by kernel_rfl) (by kernel_rfl) (post_slot 9 (by decide) _) (Or.inl ⟨by rfl, ?_⟩) hHeld ?_
    · intro W hS
      have s1 := hS.cL
      have s2 := hS.h.pc
      go_simp
    simp only [Act.put, List.setIfInBounds_toArray, List.set_cons_zero, List.set_cons_succ]
    refine wpAnyH_take (i := 3) (v := .pointer (some ⟨B, 32, none⟩)) rfl (by kernel_rfl) (by kernel_rfl) (by kernel_rfl) (post_slot 10 (by decide) _) (Or.inl ⟨by rfl, ?_⟩) hHeld ?_
    · intro W hS
      have s1 := hS.cL
      have s2 := hS.h.pc
      go_simp
    simp only [Act.put, List.setIfInBounds_toArray, List.set_cons_zero, List.set_cons_succ]
    refine wpAnyH_take (i := 4) (v := .int .u32 s.pc) rfl (by kernel_rfl) (by kernel_rfl) (by kernel_rfl) (post_slot 11 (by decide) _) (Or.inl ⟨by rfl, ?_⟩) hHeld ?_
    · intro W hS
      have s1 := hS.cL
      have s2 := hS.h.pc
      go_simp
    simp only [Act.put, List.setIfInBounds_toArray, List.set_cons_zero, List.set_cons_succ]
    refine wpAnyH_ready (rs := [5, 10]) (by kernel_rfl) (by simp) ?_
    refine AllReadyH.cons rfl (fun K hK => ?_) (AllReadyH.cons rfl (fun K hK => ?_) AllReadyH.nil)
    · go_simp
      go_at_call 40
      refine (lo _ hb).mono ?_
      rintro e W1 ⟨rfl, bZ⟩
      refine hK.out _ _ (Begun.below hb bZ) (fun h1 => ?_)
      clear hK K
      refine wpAnyH_ready (rs := [6, 10]) (by kernel_rfl) (by simp) ?_
      refine AllReadyH.cons rfl (fun K hK => ?_) (AllReadyH.cons rfl (fun K hK => ?_) AllReadyH.nil)
      · go_simp
        go_at_call 39
        refine (de _ h1).mono ?_
        rintro e W2 ⟨rfl, bY⟩
        refine hK.out _ _ (Begun.below h1 bY) (fun hY => ?_)
        clear hK K
        refine wpAnyH_take (i := 7) (v := .tuple #[wordV a0 a1 a2 a3 a4, .bool ok]) rfl (by kernel_rfl) (by kernel_rfl) (by kernel_rfl) (post_slot 6 (by decide) _) (Or.inl ⟨by rfl, ?_⟩) hY ?_
        · intro W hS
          go_simp
        simp only [Act.put, List.setIfInBounds_toArray, List.set_cons_zero, List.set_cons_succ]
        refine wpAnyH_take (i := 8) (v := wordV a0 a1 a2 a3 a4) rfl (by kernel_rfl) (by kernel_rfl) (by kernel_rfl) (post_slot 14 (by decide) _) (Or.inl ⟨by rfl, ?_⟩) hY ?_
        · intro W hS
          go_simp
        simp only [Act.put, List.setIfInBounds_toArray, List.set_cons_zero, List.set_cons_succ]
        refine wpAnyH_take (i := 9) (v := .bool ok) rfl (by kernel_rfl) (by kernel_rfl) (by kernel_rfl) (post_slot 15 (by decide) _) (Or.inl ⟨by rfl, ?_⟩) hY ?_
        · intro W hS
          go_simp
        simp only [Act.put, List.setIfInBounds_toArray, List.set_cons_zero, List.set_cons_succ]
        refine wpAnyH_ready (rs := [10]) (by kernel_rfl) (by simp) ?_
        refine AllReadyH.cons rfl (fun K hK => ?_) AllReadyH.nil
        go_simp
        refine hK.out _ _ (Begun.alloc hY _) (fun hA => ?_)
        clear hK K
        refine wpAnyH_ready (rs := [11]) (by kernel_rfl) (by simp) ?_
        refine AllReadyH.cons rfl (fun K hK => ?_) AllReadyH.nil
        go_simp
        refine hK.out _ _ (Begun.alloc hY _) (fun hS => ?_)
        clear hK K
        refine wpAnyH_take (i := 12) (v := .bool ok) rfl (by kernel_rfl) (by kernel_rfl) (by kernel_rfl) (post_slot 4 (by decide) _) (Or.inl ⟨by rfl, ?_⟩) hS ?_
        · intro W hS
          go_simp
        simp only [Act.put, List.setIfInBounds_toArray, List.set_cons_zero, List.set_cons_succ]
        refine wpAnyH_done (by kernel_rfl) ?_ _
        simp only [List.getElem_toArray, List.getElem_cons_succ, List.getElem_cons_zero, Act.put, List.setIfInBounds_toArray, List.set_cons_zero, List.set_cons_succ, Exit.then]
        go_step
        go_meet
        case rel => exact ⟨_, rfl, rfl, hS, by simp, by simp, by simp, by simp, by simp⟩
      · go_simp
        refine hK.out _ _ (Begun.alloc h1 _) (fun hA => ?_)
        clear hK K
        refine wpAnyH_ready (rs := [6]) (by kernel_rfl) (by simp) ?_
        refine AllReadyH.cons rfl (fun K hK => ?_) AllReadyH.nil
        go_simp
        go_at_call 39
        refine (de _ hA).mono ?_
        rintro e W2 ⟨rfl, bY⟩
        refine hK.out _ _ (Begun.below hA bY) (fun hY => ?_)
        clear hK K
        refine wpAnyH_take (i := 7) (v := .tuple #[wordV a0 a1 a2 a3 a4, .bool ok]) rfl (by kernel_rfl) (by kernel_rfl) (by kernel_rfl) (post_slot 6 (by decide) _) (Or.inl ⟨by rfl, ?_⟩) hY ?_
        · intro W hS
          go_simp
        simp only [Act.put, List.setIfInBounds_toArray, List.set_cons_zero, List.set_cons_succ]
        refine wpAnyH_take (i := 8) (v := wordV a0 a1 a2 a3 a4) rfl (by kernel_rfl) (by kernel_rfl) (by kernel_rfl) (post_slot 14 (by decide) _) (Or.inl ⟨by rfl, ?_⟩) hY ?_
        · intro W hS
          go_simp
        simp only [Act.put, List.setIfInBounds_toArray, List.set_cons_zero, List.set_cons_succ]
        refine wpAnyH_take (i := 9) (v := .bool ok) rfl (by kernel_rfl) (by kernel_rfl) (by kernel_rfl) (post_slot 15 (by decide) _) (Or.inl ⟨by rfl, ?_⟩) hY ?_
        · intro W hS
          go_simp
        simp only [Act.put, List.setIfInBounds_toArray, List.set_cons_zero, List.set_cons_succ]
        refine wpAnyH_ready (rs := [11]) (by kernel_rfl) (by simp) ?_
        refine AllReadyH.cons rfl (fun K hK => ?_) AllReadyH.nil
        have q0 := own_cell bY 0 _ rfl
        have q1 := own_cell bY 1 _ rfl
        have q2 := own_cell bY 2 _ rfl
        have q3 := own_cell bY 3 _ rfl
        have q4 := own_cell bY 4 _ rfl
        have pf := fun i => own_frozen bY i
        go_simp
        refine hK.out _ _ (Begun.set5 hY hlt (L := W1.heap.size) (by have := h1.size; omega) _ _ _ _ _) (fun hS => ?_)
        clear hK K
        refine wpAnyH_take (i := 12) (v := .bool ok) rfl (by kernel_rfl) (by kernel_rfl) (by kernel_rfl) (post_slot 4 (by decide) _) (Or.inl ⟨by rfl, ?_⟩) hS ?_
        · intro W hS
          go_simp
        simp only [Act.put, List.setIfInBounds_toArray, List.set_cons_zero, List.set_cons_succ]
        refine wpAnyH_done (by kernel_rfl) ?_ _
        simp only [List.getElem_toArray, List.getElem_cons_succ, List.getElem_cons_zero, Act.put, List.setIfInBounds_toArray, List.set_cons_zero, List.set_cons_succ, Exit.then]
        go_step
        go_meet
        case rel => exact ⟨_, rfl, rfl, hS, set5 W2 _ _ _ _ _ _ _ _ _ _ _ q0 q1 q2 q3 q4 _ rfl⟩
    · go_simp
      refine hK.out _ _ (Begun.alloc hb _) (fun hA => ?_)
      clear hK K
      refine wpAnyH_ready (rs := [5]) (by kernel_rfl) (by simp) ?_
      refine AllReadyH.cons rfl (fun K hK => ?_) AllReadyH.nil
      go_simp
      go_at_call 40
      refine (lo _ hA).mono ?_
      rintro e W1 ⟨rfl, bZ⟩
      refine hK.out _ _ (Begun.below hA bZ) (fun h1 => ?_)
      clear hK K
      refine wpAnyH_ready (rs := [6]) (by kernel_rfl) (by simp) ?_
      refine AllReadyH.cons rfl (fun K hK => ?_) AllReadyH.nil
      go_simp
      go_at_call 39
      refine (de _ h1).mono ?_
      rintro e W2 ⟨rfl, bY⟩
      refine hK.out _ _ (Begun.below h1 bY) (fun hY => ?_)
      clear hK K
      refine wpAnyH_take (i := 7) (v := .tuple #[wordV a0 a1 a2 a3 a4, .bool ok]) rfl (by kernel_rfl) (by kernel_rfl) (by kernel_rfl) (post_slot 6 (by decide) _) (Or.inl ⟨by rfl, ?_⟩) hY ?_
      · intro W hS
        go_simp
      simp only [Act.put, List.setIfInBounds_toArray, List.set_cons_zero, List.set_cons_succ]
      refine wpAnyH_take (i := 8) (v := wordV a0 a1 a2 a3 a4) rfl (by kernel_rfl) (by kernel_rfl) (by kernel_rfl) (post_slot 14 (by decide) _) (Or.inl ⟨by rfl, ?_⟩) hY ?_
      · intro W hS
        go_simp
      simp only [Act.put, List.setIfInBounds_toArray, List.set_cons_zero, List.set_cons_succ]
      refine wpAnyH_take (i := 9) (v := .bool ok) rfl (by kernel_rfl) (by kernel_rfl) (by kernel_rfl) (post_slot 15 (by decide) _) (Or.inl ⟨by rfl, ?_⟩) hY ?_
      · intro W hS
        go_simp
      simp only [Act.put, List.setIfInBounds_toArray, List.set_cons_zero, List.set_cons_succ]
      refine wpAnyH_ready (rs := [11]) (by kernel_rfl) (by simp) ?_
      refine AllReadyH.cons rfl (fun K hK => ?_) AllReadyH.nil
      have hz0 : ((w.alloc (.cells #[hp B] 29)).alloc (.cells #[.int .i64 0] 3)).heap.size = w.heap.size + 1 + 1 := by simp
      replace bZ : Below (((w.alloc (.cells #[hp B] 29)).alloc (.cells #[.int .i64 0] 3)).alloc zeroW).heap.size (((w.alloc (.cells #[hp B] 29)).alloc (.cells #[.int .i64 0] 3)).alloc zeroW) W1 := ⟨bZ.os, bZ.tape, bZ.output, bZ.size, bZ.block⟩
      have hlz : w.heap.size + 1 + 1 < W1.heap.size := by rw [← hz0]; exact Nat.lt_of_lt_of_le (by simp) bZ.size
      have c0 : ∀ (i : Nat) (v : Value), (#[Value.int .i64 0, .int .i64 0, .int .i64 0, .int .i64 0, .int .i32 0])[i]? = some v → W1.cell? ⟨w.heap.size + 1 + 1, i, none⟩ = some v := fun i v hv => by have := own_cell bZ i v hv; rw [hz0] at this; exact this
      have q0 := (bY.cell (p := ⟨w.heap.size + 1 + 1, 0, none⟩) hlz).trans (c0 0 _ rfl)
      have q1 := (bY.cell (p := ⟨w.heap.size + 1 + 1, 1, none⟩) hlz).trans (c0 1 _ rfl)
      have q2 := (bY.cell (p := ⟨w.heap.size + 1 + 1, 2, none⟩) hlz).trans (c0 2 _ rfl)
      have q3 := (bY.cell (p := ⟨w.heap.size + 1 + 1, 3, none⟩) hlz).trans (c0 3 _ rfl)
      have q4 := (bY.cell (p := ⟨w.heap.size + 1 + 1, 4, none⟩) hlz).trans (c0 4 _ rfl)
      have c0f : ∀ i : Nat, W1.frozen? ⟨w.heap.size + 1 + 1, i, none⟩ = false := fun i => by have := own_frozen bZ i; rw [hz0] at this; exact this
      have pf := fun i => (bY.frozen (p := ⟨w.heap.size + 1 + 1, i, none⟩) hlz).trans (c0f i)
      go_simp
      refine hK.out _ _ (Begun.set5 hY hlt (L := (w.heap.size + 1 + 1)) (by have := h1.size; omega) _ _ _ _ _) (fun hS => ?_)
      clear hK K
      refine wpAnyH_take (i := 12) (v := .bool ok) rfl (by kernel_rfl) (by kernel_rfl) (by kernel_rfl) (post_slot 4 (by decide) _) (Or.inl ⟨by rfl, ?_⟩) hS ?_
      · intro W hS
        go_simp
      simp only [Act.put, List.setIfInBounds_toArray, List.set_cons_zero, List.set_cons_succ]
      refine wpAnyH_done (by kernel_rfl) ?_ _
      simp only [List.getElem_toArray, List.getElem_cons_succ, List.getElem_cons_zero, Act.put, List.setIfInBounds_toArray, List.set_cons_zero, List.set_cons_succ, Exit.then]
      go_step
      go_meet
      case rel => exact ⟨_, rfl, rfl, hS, set5 W2 _ _ _ _ _ _ _ _ _ _ _ q0 q1 q2 q3 q4 _ rfl⟩
  case rest =>
    obtain ⟨L, rfl, rfl, hc, c0, c1, c2, c3, c4⟩ := hcut
    clear lo de hb
    cases ok with
    | false =>
      obtain ⟨rfl, rfl⟩ := hno rfl
      have cK := hc.cK
      have fK := hc.fK
      go_wp2_with fail
      exact step_left (hc.h.other (by omega)) (hc.k.setNew (by simp) _) (by simp [World.cell?_setCell_same', cK]) rfl fun W' h1 h2 => ⟨rfl, h1, h2⟩
    | true =>
      obtain ⟨hl, ht⟩ := hyes rfl
      have hdo := do_any hc.h _ _ _ _ _ hl
      have cK := hc.cK
      have fK := hc.fK
      have cL := hc.cL
      cases ho : doL s a0 a1 a2 a3 a4 with
      | go kk s1 =>
        rw [ho] at hdo ht
        cases ht
        go_wp2_with fail
        refine hdo.mono ?_
        rintro e w5 ⟨⟨rfl, h5⟩, k5⟩
        have hc5 := hc.but hlt h5 k5
        have cK5 := hc5.cK
        have fK5 := hc5.fK
        go_wp2_with fail
        exact step_left (hc5.h.other (by omega)) (hc5.k.setNew (by simp) _) (by simp [World.cell?_setCell_same', cK5]) rfl fun W' h1 h2 => ⟨rfl, h1, h2⟩
      | halt kk p =>
        have hr := (isL_regs hl).1
        have hp := doL_halt hr.1 hr.2 ho
        rw [ho] at hdo ht
        cases ht
        go_wp2_with fail
        refine hdo.mono ?_
        rintro e w5 ⟨⟨rfl, h5⟩, k5⟩
        exact step_caught (hc.but hlt h5 k5) hlt hp rfl fun W' h1 h2 => ⟨rfl, h1, h2⟩
/-- A step: what it tells, what it makes. -/
theorem Step_any {B : Nat} {s : St} {w : World} (h : HAt w B s) (tabs : Tabs w) :
    Calls Tryd.prog 15 #[hp B] w fun e w' => e = .returned (.int .i64 (stepL s).1) ∧ HAt w' B (stepL s).2 ∧ But [B] w.heap.size w w' := by
  unfold stepL
  cases hf : fitsL s.pc 4 with
  | false => simpa using Step_nofetch h tabs hf
  | true =>
    rw [if_pos rfl]
    have hx := wordM_bd h.ok.m s.pc 4
    cases hd : decL (wordM s.m s.pc 4) with
    | none => exact Step_core h tabs hf 0 0 0 0 0 6 false (by rw [hd]; rfl) (fun _ => ⟨rfl, rfl⟩) (fun e => by cases e)
    | some op => exact Step_core h tabs hf _ _ _ _ _ _ true (by rw [hd]; rfl) (fun e => by cases e) (fun _ => ⟨(enc_dec hx hd).1, rfl⟩)
end Go.Proofs.YtcddhlepkmbkcaaDoor
