/- Both memories are alike. -/
import Derived.Test.YtmlaancmacipoaaQ0
namespace Go.Proofs.Ytmlaancmacipoaa
open Go.RowKit
set_option linter.unusedVariables false
set_option linter.unusedSimpArgs false
set_option linter.unusedSectionVars false

section
variable {n0 : Nat} {w0 w : World} {B R : Nat} {m t : Mm}
theorem bPeek (b : Bp n0 w0 w B R m t) (a n : Int) (ha : U32 a) (hn : n ≤ 9223372036854775807) : Calls Try.prog 29 #[mp B, .int .u32 a, .int .i64 n] w fun e w' => (∃ x cap, e = .returned (.slice x (mappedL m a n.toNat) cap) ∧ Row8 w' x (mappedL m a n.toNat) (peekL m a n.toNat)) ∧ Bp n0 w0 w' B R m t ∧ Below w.heap.size w w' :=
  (Peek_any b.h b.ok a ha n hn).mono fun e w' h => ⟨h.1, b.below h.2, h.2⟩
theorem bPeekR (b : Bp n0 w0 w B R m t) (a n : Int) (ha : U32 a) (hn : I64 n) : Calls Try.prog 30 #[mp R, .int .u32 a, .int .i64 n] w fun e w' => (∃ x cap, e = .returned (.slice x (mappedL t a n.toNat) cap) ∧ Row8 w' x (mappedL t a n.toNat) (peekL t a n.toNat)) ∧ Bp n0 w0 w' B R m t ∧ Below w.heap.size w w' :=
  (rPeek b.r b.ok2 a ha n hn).mono fun e w' h => ⟨h.1, b.below h.2, h.2⟩
end
theorem rights_at (m : Mm) (k : Nat) (h : k < 64) : rightsL m k = m.r k := by unfold rightsL; rw [if_pos (by omega), Int.toNat_natCast]
set_option maxHeartbeats 4000000 in
set_option maxRecDepth 8000 in
theorem alike_any {n0 : Nat} {w0 w : World} {B R : Nat} {m : Mm} (b : Bp n0 w0 w B R m m) :
    Calls Try.prog 12 #[mp B, mp R] w fun e w' => e = .returned (.bool true) ∧ Bp n0 w0 w' B R m m ∧ Below w.heap.size w w' := by
  go_enter Try.func12, Try.ntmps12
  go_wp2_with fail
  go_loopw [5] (fun ii W => ∃ k : Nat, k ≤ 64 ∧ ii = .int .i64 k ∧ Bp n0 w0 W B R m m ∧ Below w.heap.size w W) (fun ii _ => (64 - intOf ii).toNat)
  case atStart => exact ⟨0, by omega, rfl, b, Below.refl _ _⟩
  case round =>
    obtain ⟨k, hk, rfl, c, kb⟩ := hrel
    by_cases hlt : k < 64
    · have bd := c.drew
      have hix := ix64 R k hlt .i64
      have hcr : ∀ W, Bp n0 w0 W B R m m → W.cell? ⟨R, k, none⟩ = some (.int .i64 (m.r k)) := fun W h => h.r.r k hlt
      have hc0 := hcr _ bd
      have q0 := Rights_any bd.h k
      rw [rights_at _ k hlt] at q0
      have hsz := kb.size
      have hwr : IntKind.i64.wrap ((k : Int) * 256) = (k : Int) * 256 := by rw [IntKind.wrap_i64]; omega
      have hwu : IntKind.u32.wrap ((k : Int) * 256) = (k : Int) * 256 := by rw [IntKind.wrap_u32]; omega
      have hcv : (k : Int) * 256 % 4294967296 = (k : Int) * 256 := by omega
      have e256 : (256 : Int).toNat = 256 := rfl
      have qA := bPeek bd ((k : Int) * 256) 256 (by omega) (by decide)
      have qB : ∀ W, Bp n0 w0 W B R m m → _ := fun W h => bPeekR h ((k : Int) * 256) 256 (by omega) (by omega)
      simp only [e256] at qA qB
      generalize mappedL m ((k : Int) * 256) 256 = q at *
      generalize peekL m ((k : Int) * 256) 256 = zs at *
      generalize m.r k = r at *
      have hcr' := hid hcr
      have qA' := hid qA
      have qB' := hid qB
      clear e256 hcr qA qB
      go_wp2_with fail
      refine wp_region_held_drew (S := fun W => W.cell? ⟨R, k, none⟩ = some (.int .i64 r)) (by kernel_rfl) hc0 (fun hHeld => ?_)
      refine wpAnyH_take (i := 0) (v := mp B) rfl (by kernel_rfl) (by kernel_rfl) (by kernel_rfl) (fun _ _ _ h => h) (Or.inl ⟨by kernel_rfl, ?_⟩) hHeld ?_
      · intro W hS
        go_simp
      simp only [Act.put, List.setIfInBounds_toArray, List.set_cons_zero, List.set_cons_succ]
      refine wpAnyH_take (i := 1) (v := .int .i64 (k : Int)) rfl (by kernel_rfl) (by kernel_rfl) (by kernel_rfl) (fun _ _ _ h => h) (Or.inl ⟨by kernel_rfl, ?_⟩) hHeld ?_
      · intro W hS
        go_simp
      simp only [Act.put, List.setIfInBounds_toArray, List.set_cons_zero, List.set_cons_succ]
      refine wpAnyH_take (i := 3) (v := mp R) rfl (by kernel_rfl) (by kernel_rfl) (by kernel_rfl) (fun _ _ _ h => h) (Or.inl ⟨by kernel_rfl, ?_⟩) hHeld ?_
      · intro W hS
        go_simp
      simp only [Act.put, List.setIfInBounds_toArray, List.set_cons_zero, List.set_cons_succ]
      refine wpAnyH_take (i := 4) (v := .int .i64 (k : Int)) rfl (by kernel_rfl) (by kernel_rfl) (by kernel_rfl) (fun _ _ _ h => h) (Or.inl ⟨by kernel_rfl, ?_⟩) hHeld ?_
      · intro W hS
        go_simp
      simp only [Act.put, List.setIfInBounds_toArray, List.set_cons_zero, List.set_cons_succ]
      refine wpAnyH_take (i := 5) (v := mp R) rfl (by kernel_rfl) (by kernel_rfl) (by kernel_rfl) (fun _ _ _ h => h) (Or.inl ⟨by kernel_rfl, ?_⟩) hHeld ?_
      · intro W hS
        go_simp
      simp only [Act.put, List.setIfInBounds_toArray, List.set_cons_zero, List.set_cons_succ]
      refine wpAnyH_take (i := 6) (v := mp R) rfl (by kernel_rfl) (by kernel_rfl) (by kernel_rfl) (fun _ _ _ h => h) (Or.inl ⟨by kernel_rfl, ?_⟩) hHeld ?_
      · intro W hS
        go_simp
      simp only [Act.put, List.setIfInBounds_toArray, List.set_cons_zero, List.set_cons_succ]
      refine wpAnyH_take (i := 7) (v := .pointer (some ⟨R, k, none⟩)) rfl (by kernel_rfl) (by kernel_rfl) (by kernel_rfl) (fun _ _ _ h => h) (Or.inl ⟨by kernel_rfl, ?_⟩) hHeld ?_
      · intro W hS
        go_simp
      simp only [Act.put, List.setIfInBounds_toArray, List.set_cons_zero, List.set_cons_succ]
      refine wpAnyH_take (i := 8) (v := .int .i64 r) rfl (by kernel_rfl) (by kernel_rfl) (by kernel_rfl) (fun _ _ _ h => h) (Or.inl ⟨by kernel_rfl, ?_⟩) hHeld ?_
      · intro W hS
        go_simp
      simp only [Act.put, List.setIfInBounds_toArray, List.set_cons_zero, List.set_cons_succ]
      refine wpAnyH_ready (rs := [2]) (by kernel_rfl) (by simp) ?_
      refine AllReadyH.cons rfl (fun K hK => ?_) AllReadyH.nil
      go_simp
      go_at_call 28
      refine q0.mono ?_
      rintro e w' ⟨rfl, rfl⟩
      refine hK.out _ _ hHeld (fun _ => ?_)
      clear hK K
      try simp only [Act.put, List.setIfInBounds_toArray, List.set_cons_zero, List.set_cons_succ]
      refine wpAnyH_take (i := 9) (v := .bool false) rfl (by kernel_rfl) (by kernel_rfl) (by kernel_rfl) (fun _ _ _ h => h) (Or.inl ⟨by kernel_rfl, ?_⟩) hHeld ?_
      · intro W hS
        go_simp
      simp only [Act.put, List.setIfInBounds_toArray, List.set_cons_zero, List.set_cons_succ]
      refine wpAnyH_take (i := 10) (v := .bool false) rfl (by kernel_rfl) (by kernel_rfl) (by kernel_rfl) (fun _ _ _ h => h) (Or.inl ⟨by kernel_rfl, ?_⟩) hHeld ?_
      · intro W hS
        go_simp
      simp only [Act.put, List.setIfInBounds_toArray, List.set_cons_zero, List.set_cons_succ]
      refine wpAnyH_take (i := 11) (v := mp B) rfl (by kernel_rfl) (by kernel_rfl) (by kernel_rfl) (fun _ _ _ h => h) (Or.inl ⟨by kernel_rfl, ?_⟩) hHeld ?_
      · intro W hS
        go_simp
      simp only [Act.put, List.setIfInBounds_toArray, List.set_cons_zero, List.set_cons_succ]
      refine wpAnyH_take (i := 12) (v := .int .i64 (k : Int)) rfl (by kernel_rfl) (by kernel_rfl) (by kernel_rfl) (fun _ _ _ h => h) (Or.inl ⟨by kernel_rfl, ?_⟩) hHeld ?_
      · intro W hS
        go_simp
      simp only [Act.put, List.setIfInBounds_toArray, List.set_cons_zero, List.set_cons_succ]
      refine wpAnyH_take (i := 13) (v := .int .i64 ((k : Int) * 256)) rfl (by kernel_rfl) (by kernel_rfl) (by kernel_rfl) (fun _ _ _ h => h) (Or.inl ⟨by kernel_rfl, ?_⟩) hHeld ?_
      · intro W hS
        go_simp
      simp only [Act.put, List.setIfInBounds_toArray, List.set_cons_zero, List.set_cons_succ]
      refine wpAnyH_take (i := 14) (v := .int .u32 ((k : Int) * 256)) rfl (by kernel_rfl) (by kernel_rfl) (by kernel_rfl) (fun _ _ _ h => h) (Or.inl ⟨by kernel_rfl, ?_⟩) hHeld ?_
      · intro W hS
        go_simp
      simp only [Act.put, List.setIfInBounds_toArray, List.set_cons_zero, List.set_cons_succ]
      refine wpAnyH_take (i := 17) (v := mp R) rfl (by kernel_rfl) (by kernel_rfl) (by kernel_rfl) (fun _ _ _ h => h) (Or.inl ⟨by kernel_rfl, ?_⟩) hHeld ?_
      · intro W hS
        go_simp
      simp only [Act.put, List.setIfInBounds_toArray, List.set_cons_zero, List.set_cons_succ]
      refine wpAnyH_take (i := 18) (v := .int .i64 (k : Int)) rfl (by kernel_rfl) (by kernel_rfl) (by kernel_rfl) (fun _ _ _ h => h) (Or.inl ⟨by kernel_rfl, ?_⟩) hHeld ?_
      · intro W hS
        go_simp
      simp only [Act.put, List.setIfInBounds_toArray, List.set_cons_zero, List.set_cons_succ]
      refine wpAnyH_take (i := 19) (v := .int .i64 ((k : Int) * 256)) rfl (by kernel_rfl) (by kernel_rfl) (by kernel_rfl) (fun _ _ _ h => h) (Or.inl ⟨by kernel_rfl, ?_⟩) hHeld ?_
      · intro W hS
        go_simp
      simp only [Act.put, List.setIfInBounds_toArray, List.set_cons_zero, List.set_cons_succ]
      refine wpAnyH_take (i := 20) (v := .int .u32 ((k : Int) * 256)) rfl (by kernel_rfl) (by kernel_rfl) (by kernel_rfl) (fun _ _ _ h => h) (Or.inl ⟨by kernel_rfl, ?_⟩) hHeld ?_
      · intro W hS
        go_simp
      simp only [Act.put, List.setIfInBounds_toArray, List.set_cons_zero, List.set_cons_succ]
      refine wpAnyH_ready (rs := [15]) (by kernel_rfl) (by simp) ?_
      refine AllReadyH.cons rfl (fun K hK => ?_) AllReadyH.nil
      go_simp
      go_at_call 29
      refine qA'.out.mono ?_
      rintro e wA ⟨⟨x1, c1, rfl, hr1⟩, cA, kA⟩
      have hSA := hcr'.out _ cA
      refine hK.out _ _ hSA (fun _ => ?_)
      clear hK K
      try simp only [Act.put, List.setIfInBounds_toArray, List.set_cons_zero, List.set_cons_succ]
      refine wpAnyH_ready (rs := [16, 21]) (by kernel_rfl) (by simp) ?_
      refine AllReadyH.cons rfl (fun K hK => ?_) (AllReadyH.cons rfl (fun K hK => ?_) AllReadyH.nil)
      · go_simp
        rw [conv_row hr1]
        go_simp
        refine hK.out _ _ hSA (fun _ => ?_)
        clear hK K
        try simp only [Act.put, List.setIfInBounds_toArray, List.set_cons_zero, List.set_cons_succ]
        refine wpAnyH_ready (rs := [21]) (by kernel_rfl) (by simp) ?_
        refine AllReadyH.cons rfl (fun K hK => ?_) AllReadyH.nil
        · go_simp
          go_at_call 30
          refine (qB'.out _ cA).mono ?_
          rintro e wB ⟨⟨x2, c2, rfl, hr2⟩, cB, kB⟩
          have hSB := hcr'.out _ cB
          have hr3 := hr1.below kB
          refine hK.out _ _ hSB (fun _ => ?_)
          clear hK K
          try simp only [Act.put, List.setIfInBounds_toArray, List.set_cons_zero, List.set_cons_succ]
          refine wpAnyH_ready (rs := [22]) (by kernel_rfl) (by simp) ?_
          refine AllReadyH.cons rfl (fun K hK => ?_) AllReadyH.nil
          · go_simp
            rw [conv_row hr2]
            go_simp
            refine hK.out _ _ hSB (fun _ => ?_)
            clear hK K
            try simp only [Act.put, List.setIfInBounds_toArray, List.set_cons_zero, List.set_cons_succ]
            refine wpAnyH_take (i := 23) (v := .bool false) rfl (by kernel_rfl) (by kernel_rfl) (by kernel_rfl) (fun _ _ _ h => h) (Or.inl ⟨by kernel_rfl, ?_⟩) hSB ?_
            · intro W hS
              go_simp
            simp only [Act.put, List.setIfInBounds_toArray, List.set_cons_zero, List.set_cons_succ]
            refine wpAnyH_take (i := 24) (v := .bool false) rfl (by kernel_rfl) (by kernel_rfl) (by kernel_rfl) (fun _ _ _ h => h) (Or.inl ⟨by kernel_rfl, ?_⟩) hSB ?_
            · intro W hS
              go_simp
            simp only [Act.put, List.setIfInBounds_toArray, List.set_cons_zero, List.set_cons_succ]
            refine wpAnyH_done (by kernel_rfl) ?_ _
            go_wp2_with fail
            go_roundw
            rotate_left
            · show ((64 : Int) - ((k : Int) + 1)).toNat < ((64 : Int) - (k : Int)).toNat
              omega
            exact ⟨k + 1, by omega, by go_num, cB, (kb.drew.trans (kA.mono kb.size)).trans (kB.mono (Nat.le_trans kb.size kA.size))⟩
      · go_simp
        go_at_call 30
        refine (qB'.out _ cA).mono ?_
        rintro e wB ⟨⟨x2, c2, rfl, hr2⟩, cB, kB⟩
        have hSB := hcr'.out _ cB
        have hr3 := hr1.below kB
        refine hK.out _ _ hSB (fun _ => ?_)
        clear hK K
        try simp only [Act.put, List.setIfInBounds_toArray, List.set_cons_zero, List.set_cons_succ]
        refine wpAnyH_ready (rs := [16, 22]) (by kernel_rfl) (by simp) ?_
        refine AllReadyH.cons rfl (fun K hK => ?_) (AllReadyH.cons rfl (fun K hK => ?_) AllReadyH.nil)
        · go_simp
          rw [conv_row hr3]
          go_simp
          refine hK.out _ _ hSB (fun _ => ?_)
          clear hK K
          try simp only [Act.put, List.setIfInBounds_toArray, List.set_cons_zero, List.set_cons_succ]
          refine wpAnyH_ready (rs := [22]) (by kernel_rfl) (by simp) ?_
          refine AllReadyH.cons rfl (fun K hK => ?_) AllReadyH.nil
          · go_simp
            rw [conv_row hr2]
            go_simp
            refine hK.out _ _ hSB (fun _ => ?_)
            clear hK K
            try simp only [Act.put, List.setIfInBounds_toArray, List.set_cons_zero, List.set_cons_succ]
            refine wpAnyH_take (i := 23) (v := .bool false) rfl (by kernel_rfl) (by kernel_rfl) (by kernel_rfl) (fun _ _ _ h => h) (Or.inl ⟨by kernel_rfl, ?_⟩) hSB ?_
            · intro W hS
              go_simp
            simp only [Act.put, List.setIfInBounds_toArray, List.set_cons_zero, List.set_cons_succ]
            refine wpAnyH_take (i := 24) (v := .bool false) rfl (by kernel_rfl) (by kernel_rfl) (by kernel_rfl) (fun _ _ _ h => h) (Or.inl ⟨by kernel_rfl, ?_⟩) hSB ?_
            · intro W hS
              go_simp
            simp only [Act.put, List.setIfInBounds_toArray, List.set_cons_zero, List.set_cons_succ]
            refine wpAnyH_done (by kernel_rfl) ?_ _
            go_wp2_with fail
            go_roundw
            rotate_left
            · show ((64 : Int) - ((k : Int) + 1)).toNat < ((64 : Int) - (k : Int)).toNat
              omega
            exact ⟨k + 1, by omega, by go_num, cB, (kb.drew.trans (kA.mono kb.size)).trans (kB.mono (Nat.le_trans kb.size kA.size))⟩
        · go_simp
          rw [conv_row hr2]
          go_simp
          refine hK.out _ _ hSB (fun _ => ?_)
          clear hK K
          try simp only [Act.put, List.setIfInBounds_toArray, List.set_cons_zero, List.set_cons_succ]
          refine wpAnyH_ready (rs := [16]) (by kernel_rfl) (by simp) ?_
          refine AllReadyH.cons rfl (fun K hK => ?_) AllReadyH.nil
          · go_simp
            rw [conv_row hr3]
            go_simp
            refine hK.out _ _ hSB (fun _ => ?_)
            clear hK K
            try simp only [Act.put, List.setIfInBounds_toArray, List.set_cons_zero, List.set_cons_succ]
            refine wpAnyH_take (i := 23) (v := .bool false) rfl (by kernel_rfl) (by kernel_rfl) (by kernel_rfl) (fun _ _ _ h => h) (Or.inl ⟨by kernel_rfl, ?_⟩) hSB ?_
            · intro W hS
              go_simp
            simp only [Act.put, List.setIfInBounds_toArray, List.set_cons_zero, List.set_cons_succ]
            refine wpAnyH_take (i := 24) (v := .bool false) rfl (by kernel_rfl) (by kernel_rfl) (by kernel_rfl) (fun _ _ _ h => h) (Or.inl ⟨by kernel_rfl, ?_⟩) hSB ?_
            · intro W hS
              go_simp
            simp only [Act.put, List.setIfInBounds_toArray, List.set_cons_zero, List.set_cons_succ]
            refine wpAnyH_done (by kernel_rfl) ?_ _
            go_wp2_with fail
            go_roundw
            rotate_left
            · show ((64 : Int) - ((k : Int) + 1)).toNat < ((64 : Int) - (k : Int)).toNat
              omega
            exact ⟨k + 1, by omega, by go_num, cB, (kb.drew.trans (kA.mono kb.size)).trans (kB.mono (Nat.le_trans kb.size kA.size))⟩
    · obtain rfl : k = 64 := by omega
      go_wp2_with fail
      go_ret
      exact ⟨rfl, c, kb⟩
end Go.Proofs.Ytmlaancmacipoaa
