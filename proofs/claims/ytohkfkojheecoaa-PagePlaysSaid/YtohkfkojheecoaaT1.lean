/- The walk of PagePlays. -/
import Derived.Test.YtohkfkojheecoaaT0
namespace Go.Proofs.Ytohkfkojheecoaa
open Go.RowKit
set_option linter.unusedVariables false
set_option linter.unusedSimpArgs false
set_option linter.unusedSectionVars false

theorem Bp.other {n0 : Nat} {w0 w w' : World} {B R C : Nat} {m t : Mm} (b : Bp n0 w0 w B R m t) (k : But [C] w.heap.size w w') (h1 : B ≠ C) (h2 : R ≠ C) : Bp w'.heap.size w' w' B R m t :=
  ⟨b.h.but k b.h.lt (by simpa using h1), b.r.but k b.r.lt (by simpa using h2), b.ok, b.ok2, But.refl _ _ _, b.ne, Nat.le_refl _⟩
set_option maxHeartbeats 8000000 in
set_option maxRecDepth 8000 in
theorem plays_any {w : World} (x : Option Addr) (len cap : Nat) (T : List Stp) (hT : StepsAt w x len T) :
    Calls Try.prog 3 #[.slice x len cap] w fun e w' => e = .returned (.bool true) ∧ Below w.heap.size w w' := by
  go_enter Try.func3, Try.ntmps3
  go_wp2_with fail
  refine (known_any _).mono ?_
  rintro e w1 ⟨rfl, k1⟩
  by_cases hlen : len ≤ 30
  rotate_left
  · go_wp2_with fail
    go_ret
    exact ⟨rfl, k1⟩
  go_wp2_with fail
  refine (New_any _).mono ?_
  rintro e w2 ⟨rfl, h2, k2⟩
  obtain ⟨Z, hZ, hcZ, hne⟩ := zero_ref
  have s1 := k1.size
  have s2 := h2.lt
  have hx : RAt (w2.alloc (.cells Z 30)) w2.heap.size Mm.new := ⟨_, alloc_new _ _, hcZ⟩
  have kx : Below w2.heap.size w2 (w2.alloc (.cells Z 30)) := (Below.refl _ _).alloc (Nat.le_refl _) _
  go_wp2_with fail
  generalize w2.alloc (.cells Z 30) = w3 at *
  clear hZ hcZ hne
  have bb : Bp w3.heap.size w3 w3 w1.heap.size w2.heap.size Mm.new Mm.new := ⟨h2.below kx h2.lt, hx, new_okM, new_okM, But.refl _ _ _, by omega, Nat.le_refl _⟩
  have kk : Below w.heap.size w w3 := (k1.trans (k2.mono s1)).trans (kx.mono (by omega))
  have hBw : w.heap.size ≤ w1.heap.size := s1
  have hRw : w.heap.size ≤ w2.heap.size := by omega
  clear h2 k2 hx kx k1 s1 s2
  generalize w1.heap.size = B at *
  generalize w2.heap.size = R at *
  go_loopw [5] (fun ii W => ∃ (k : Nat) (m : Mm), k ≤ len ∧ ii = .int .i64 k ∧ Bp W.heap.size W W B R m m ∧ Below w.heap.size w W) (fun ii _ => (len - intOf ii).toNat)
  case atStart => exact ⟨0, Mm.new, by omega, rfl, bb, kk⟩
  case round =>
    obtain ⟨k, m, hk, rfl, c, kb⟩ := hrel
    clear bb kk
    by_cases hlt : k < len
    · obtain ⟨hl, hT3⟩ := hT
      rcases hT3 with h0 | ⟨b, off, rfl, hbl, hc⟩
      · subst h0; simp at hl; omega
      · have hgk : T[k]? = some T[k] := List.getElem?_eq_getElem (by omega)
        obtain ⟨hcell, hs⟩ := hc k _ hgk
        generalize T[k] = s at *
        clear hc hgk hl
        have hix := ix_step b off len cap k hlt
        generalize off + 9 * k = o at *
        have hcS : ∀ W, Below w.heap.size w W → StpC b o s W := fun W h => hcell.below h hbl
        obtain ⟨c0, c1, c2, c3, c4, c5, c6, c7, c8⟩ := hcS _ kb
        have hcS' := hid hcS
        clear hcS hcell
        have hrl := hs.rl
        have hql := hs.ql
        by_cases hlb : s.lb ≤ 100
        rotate_left
        · go_wp2_with fail
          go_ret
          exact ⟨rfl, kb⟩
        by_cases hls : s.ls ≤ 8
        rotate_left
        · go_wp2_with fail
          go_ret
          exact ⟨rfl, kb⟩
        go_wp2_with fail
        go_loopw [6] (fun jj W => ∃ (j : Nat), j ≤ s.ls ∧ jj = .int .i64 j ∧ W = wr) (fun jj _ => (s.ls - intOf jj).toNat)
        case atStart => exact ⟨0, by omega, rfl, rfl⟩
        case round =>
          obtain ⟨j, hj, rfl, rfl⟩ := hrel
          by_cases hjl : j < s.ls
          · obtain ⟨hl, hrg, h3⟩ := hs.q.below kb (Nat.le_refl _)
            rcases h3 with h3 | ⟨b2, off2, hxs, hbl2, hc2⟩
            · rw [h3] at hl; simp at hl; omega
            · have hgj : s.L[j]? = some s.L[j] := List.getElem?_eq_getElem (by omega)
              obtain ⟨-, -, -, d3⟩ := hc2 j _ hgj
              generalize s.L[j] = y at *
              rw [hxs] at c8
              have hix2 := ix_span b2 off2 s.ls s.cs j hjl
              generalize off2 + 4 * j = o2 at *
              clear hc2 hgj hrg hl hxs
              by_cases hy : y.s.size ≤ 2000
              · go_wp2_with fail
                go_roundw
                · exact ⟨j + 1, by omega, by go_num, by simp⟩
                · show ((s.ls : Int) - ((j : Int) + 1)).toNat < ((s.ls : Int) - (j : Int)).toNat
                  omega
              · go_wp2_with fail
                go_ret
                exact ⟨rfl, kb⟩
          · obtain rfl : j = s.ls := by omega
            have bd := c.drew
            have kd : Below w.heap.size w wr.drew := kb.drew
            have hc0 : StpC b o s wr.drew := hcS'.out _ kd
            have qS := step_any s hs kd hBw hRw bd.self
            have qS' := hid qS
            have hsn := hs.n
            have hsa := hs.a
            clear qS
            go_wp2_with fail
            clear c0 c1 c2 c3 c4 c5 c6 c7 c8 hrl hql
            refine wp_region_held_drew (S := StpC b o s) (by kernel_rfl) hc0 (fun hHeld => ?_)
            refine wpAnyH_take (i := 0) (v := mp B) rfl (by kernel_rfl) (by kernel_rfl) (by kernel_rfl) (fun _ _ _ h => h) (Or.inl ⟨by kernel_rfl, ?_⟩) hHeld ?_
            · intro W hS
              go_simp
            simp only [Act.put, List.setIfInBounds_toArray, List.set_cons_zero, List.set_cons_succ]
            refine wpAnyH_take (i := 1) (v := mp R) rfl (by kernel_rfl) (by kernel_rfl) (by kernel_rfl) (fun _ _ _ h => h) (Or.inl ⟨by kernel_rfl, ?_⟩) hHeld ?_
            · intro W hS
              go_simp
            simp only [Act.put, List.setIfInBounds_toArray, List.set_cons_zero, List.set_cons_succ]
            refine wpAnyH_take (i := 2) (v := .slice (some ⟨b, off, none⟩) len cap) rfl (by kernel_rfl) (by kernel_rfl) (by kernel_rfl) (fun _ _ _ h => h) (Or.inl ⟨by kernel_rfl, ?_⟩) hHeld ?_
            · intro W hS
              go_simp
            simp only [Act.put, List.setIfInBounds_toArray, List.set_cons_zero, List.set_cons_succ]
            refine wpAnyH_take (i := 3) (v := .int .i64 (k : Int)) rfl (by kernel_rfl) (by kernel_rfl) (by kernel_rfl) (fun _ _ _ h => h) (Or.inl ⟨by kernel_rfl, ?_⟩) hHeld ?_
            · intro W hS
              go_simp
            simp only [Act.put, List.setIfInBounds_toArray, List.set_cons_zero, List.set_cons_succ]
            refine wpAnyH_take (i := 4) (v := .pointer (some ⟨b, o, none⟩)) rfl (by kernel_rfl) (by kernel_rfl) (by kernel_rfl) (fun _ _ _ h => h) (Or.inl ⟨by kernel_rfl, ?_⟩) hHeld ?_
            · intro W hS
              go_simp
            simp only [Act.put, List.setIfInBounds_toArray, List.set_cons_zero, List.set_cons_succ]
            refine wpAnyH_take (i := 5) (v := .agg #[.int .i64 s.wh, .int .i64 s.pg, .int .i64 s.ct, .int .i64 s.rt, .int .i64 s.n, .int .u32 s.a, .int .u32 s.v, .slice s.xb s.lb s.cb, .slice s.xs s.ls s.cs]) rfl (by kernel_rfl) (by kernel_rfl) (by kernel_rfl) (fun _ _ _ h => h) (Or.inl ⟨by kernel_rfl, ?_⟩) hHeld ?_
            · intro W hS
              have h0 := hS.c0
              have h1 := hS.c1
              have h2 := hS.c2
              have h3 := hS.c3
              have h4 := hS.c4
              have h5 := hS.c5
              have h6 := hS.c6
              have h7 := hS.c7
              have h8 := hS.c8
              go_simp
            simp only [Act.put, List.setIfInBounds_toArray, List.set_cons_zero, List.set_cons_succ]
            refine wpAnyH_ready (rs := [6]) (by kernel_rfl) (by simp) ?_
            refine AllReadyH.cons rfl (fun K hK => ?_) AllReadyH.nil
            go_simp
            go_at_call 11
            refine qS'.out.mono ?_
            rintro e wS ⟨rfl, ⟨m', bS⟩, kS⟩
            have kS2 := kd.trans kS
            have hSS := hcS'.out _ kS2
            refine hK.out _ _ hSS (fun _ => ?_)
            clear hK K
            try simp only [Act.put, List.setIfInBounds_toArray, List.set_cons_zero, List.set_cons_succ]
            refine wpAnyH_take (i := 7) (v := .bool false) rfl (by kernel_rfl) (by kernel_rfl) (by kernel_rfl) (fun _ _ _ h => h) (Or.inl ⟨by kernel_rfl, ?_⟩) hSS ?_
            · intro W hS
              go_simp
            simp only [Act.put, List.setIfInBounds_toArray, List.set_cons_zero, List.set_cons_succ]
            refine wpAnyH_take (i := 8) (v := .bool false) rfl (by kernel_rfl) (by kernel_rfl) (by kernel_rfl) (fun _ _ _ h => h) (Or.inl ⟨by kernel_rfl, ?_⟩) hSS ?_
            · intro W hS
              go_simp
            simp only [Act.put, List.setIfInBounds_toArray, List.set_cons_zero, List.set_cons_succ]
            refine wpAnyH_take (i := 9) (v := mp B) rfl (by kernel_rfl) (by kernel_rfl) (by kernel_rfl) (fun _ _ _ h => h) (Or.inl ⟨by kernel_rfl, ?_⟩) hSS ?_
            · intro W hS
              go_simp
            simp only [Act.put, List.setIfInBounds_toArray, List.set_cons_zero, List.set_cons_succ]
            refine wpAnyH_take (i := 10) (v := mp R) rfl (by kernel_rfl) (by kernel_rfl) (by kernel_rfl) (fun _ _ _ h => h) (Or.inl ⟨by kernel_rfl, ?_⟩) hSS ?_
            · intro W hS
              go_simp
            simp only [Act.put, List.setIfInBounds_toArray, List.set_cons_zero, List.set_cons_succ]
            refine wpAnyH_ready (rs := [11]) (by kernel_rfl) (by simp) ?_
            refine AllReadyH.cons rfl (fun K hK => ?_) AllReadyH.nil
            go_simp
            go_at_call 12
            refine (alike_any bS).mono ?_
            rintro e wL ⟨rfl, bL, kL⟩
            have zS := kS2.size
            have kL2 := kS2.trans (kL.mono zS)
            have zL := kL2.size
            have hSL := hcS'.out _ kL2
            have qA := bPeek bL.self s.a s.n hsa hsn.2
            have qB : ∀ W, Bp wL.heap.size wL W B R m' m' → _ := fun W h => bPeekR h s.a s.n hsa hsn
            generalize mappedL m' s.a s.n.toNat = q at *
            generalize peekL m' s.a s.n.toNat = zs at *
            have qA' := hid qA
            have qB' := hid qB
            clear qA qB
            refine hK.out _ _ hSL (fun _ => ?_)
            clear hK K
            try simp only [Act.put, List.setIfInBounds_toArray, List.set_cons_zero, List.set_cons_succ]
            refine wpAnyH_take (i := 12) (v := .bool false) rfl (by kernel_rfl) (by kernel_rfl) (by kernel_rfl) (fun _ _ _ h => h) (Or.inl ⟨by kernel_rfl, ?_⟩) hSL ?_
            · intro W hS
              go_simp
            simp only [Act.put, List.setIfInBounds_toArray, List.set_cons_zero, List.set_cons_succ]
            refine wpAnyH_take (i := 13) (v := .bool false) rfl (by kernel_rfl) (by kernel_rfl) (by kernel_rfl) (fun _ _ _ h => h) (Or.inl ⟨by kernel_rfl, ?_⟩) hSL ?_
            · intro W hS
              go_simp
            simp only [Act.put, List.setIfInBounds_toArray, List.set_cons_zero, List.set_cons_succ]
            refine wpAnyH_take (i := 14) (v := .bool false) rfl (by kernel_rfl) (by kernel_rfl) (by kernel_rfl) (fun _ _ _ h => h) (Or.inl ⟨by kernel_rfl, ?_⟩) hSL ?_
            · intro W hS
              go_simp
            simp only [Act.put, List.setIfInBounds_toArray, List.set_cons_zero, List.set_cons_succ]
            refine wpAnyH_take (i := 15) (v := mp B) rfl (by kernel_rfl) (by kernel_rfl) (by kernel_rfl) (fun _ _ _ h => h) (Or.inl ⟨by kernel_rfl, ?_⟩) hSL ?_
            · intro W hS
              go_simp
            simp only [Act.put, List.setIfInBounds_toArray, List.set_cons_zero, List.set_cons_succ]
            refine wpAnyH_take (i := 16) (v := .slice (some ⟨b, off, none⟩) len cap) rfl (by kernel_rfl) (by kernel_rfl) (by kernel_rfl) (fun _ _ _ h => h) (Or.inl ⟨by kernel_rfl, ?_⟩) hSL ?_
            · intro W hS
              go_simp
            simp only [Act.put, List.setIfInBounds_toArray, List.set_cons_zero, List.set_cons_succ]
            refine wpAnyH_take (i := 17) (v := .int .i64 (k : Int)) rfl (by kernel_rfl) (by kernel_rfl) (by kernel_rfl) (fun _ _ _ h => h) (Or.inl ⟨by kernel_rfl, ?_⟩) hSL ?_
            · intro W hS
              go_simp
            simp only [Act.put, List.setIfInBounds_toArray, List.set_cons_zero, List.set_cons_succ]
            refine wpAnyH_take (i := 18) (v := .pointer (some ⟨b, o, none⟩)) rfl (by kernel_rfl) (by kernel_rfl) (by kernel_rfl) (fun _ _ _ h => h) (Or.inl ⟨by kernel_rfl, ?_⟩) hSL ?_
            · intro W hS
              go_simp
            simp only [Act.put, List.setIfInBounds_toArray, List.set_cons_zero, List.set_cons_succ]
            refine wpAnyH_take (i := 19) (v := .pointer (some ⟨b, o + 5, none⟩)) rfl (by kernel_rfl) (by kernel_rfl) (by kernel_rfl) (fun _ _ _ h => h) (Or.inl ⟨by kernel_rfl, ?_⟩) hSL ?_
            · intro W hS
              go_simp
            simp only [Act.put, List.setIfInBounds_toArray, List.set_cons_zero, List.set_cons_succ]
            refine wpAnyH_take (i := 20) (v := .int .u32 s.a) rfl (by kernel_rfl) (by kernel_rfl) (by kernel_rfl) (fun _ _ _ h => h) (Or.inl ⟨by kernel_rfl, ?_⟩) hSL ?_
            · intro W hS
              have h5 := hS.c5
              go_simp
            simp only [Act.put, List.setIfInBounds_toArray, List.set_cons_zero, List.set_cons_succ]
            refine wpAnyH_take (i := 21) (v := .slice (some ⟨b, off, none⟩) len cap) rfl (by kernel_rfl) (by kernel_rfl) (by kernel_rfl) (fun _ _ _ h => h) (Or.inl ⟨by kernel_rfl, ?_⟩) hSL ?_
            · intro W hS
              go_simp
            simp only [Act.put, List.setIfInBounds_toArray, List.set_cons_zero, List.set_cons_succ]
            refine wpAnyH_take (i := 22) (v := .int .i64 (k : Int)) rfl (by kernel_rfl) (by kernel_rfl) (by kernel_rfl) (fun _ _ _ h => h) (Or.inl ⟨by kernel_rfl, ?_⟩) hSL ?_
            · intro W hS
              go_simp
            simp only [Act.put, List.setIfInBounds_toArray, List.set_cons_zero, List.set_cons_succ]
            refine wpAnyH_take (i := 23) (v := .pointer (some ⟨b, o, none⟩)) rfl (by kernel_rfl) (by kernel_rfl) (by kernel_rfl) (fun _ _ _ h => h) (Or.inl ⟨by kernel_rfl, ?_⟩) hSL ?_
            · intro W hS
              go_simp
            simp only [Act.put, List.setIfInBounds_toArray, List.set_cons_zero, List.set_cons_succ]
            refine wpAnyH_take (i := 24) (v := .pointer (some ⟨b, o + 4, none⟩)) rfl (by kernel_rfl) (by kernel_rfl) (by kernel_rfl) (fun _ _ _ h => h) (Or.inl ⟨by kernel_rfl, ?_⟩) hSL ?_
            · intro W hS
              go_simp
            simp only [Act.put, List.setIfInBounds_toArray, List.set_cons_zero, List.set_cons_succ]
            refine wpAnyH_take (i := 25) (v := .int .i64 s.n) rfl (by kernel_rfl) (by kernel_rfl) (by kernel_rfl) (fun _ _ _ h => h) (Or.inl ⟨by kernel_rfl, ?_⟩) hSL ?_
            · intro W hS
              have h4 := hS.c4
              go_simp
            simp only [Act.put, List.setIfInBounds_toArray, List.set_cons_zero, List.set_cons_succ]
            refine wpAnyH_take (i := 28) (v := mp R) rfl (by kernel_rfl) (by kernel_rfl) (by kernel_rfl) (fun _ _ _ h => h) (Or.inl ⟨by kernel_rfl, ?_⟩) hSL ?_
            · intro W hS
              go_simp
            simp only [Act.put, List.setIfInBounds_toArray, List.set_cons_zero, List.set_cons_succ]
            refine wpAnyH_take (i := 29) (v := .slice (some ⟨b, off, none⟩) len cap) rfl (by kernel_rfl) (by kernel_rfl) (by kernel_rfl) (fun _ _ _ h => h) (Or.inl ⟨by kernel_rfl, ?_⟩) hSL ?_
            · intro W hS
              go_simp
            simp only [Act.put, List.setIfInBounds_toArray, List.set_cons_zero, List.set_cons_succ]
            refine wpAnyH_take (i := 30) (v := .int .i64 (k : Int)) rfl (by kernel_rfl) (by kernel_rfl) (by kernel_rfl) (fun _ _ _ h => h) (Or.inl ⟨by kernel_rfl, ?_⟩) hSL ?_
            · intro W hS
              go_simp
            simp only [Act.put, List.setIfInBounds_toArray, List.set_cons_zero, List.set_cons_succ]
            refine wpAnyH_take (i := 31) (v := .pointer (some ⟨b, o, none⟩)) rfl (by kernel_rfl) (by kernel_rfl) (by kernel_rfl) (fun _ _ _ h => h) (Or.inl ⟨by kernel_rfl, ?_⟩) hSL ?_
            · intro W hS
              go_simp
            simp only [Act.put, List.setIfInBounds_toArray, List.set_cons_zero, List.set_cons_succ]
            refine wpAnyH_take (i := 32) (v := .pointer (some ⟨b, o + 5, none⟩)) rfl (by kernel_rfl) (by kernel_rfl) (by kernel_rfl) (fun _ _ _ h => h) (Or.inl ⟨by kernel_rfl, ?_⟩) hSL ?_
            · intro W hS
              go_simp
            simp only [Act.put, List.setIfInBounds_toArray, List.set_cons_zero, List.set_cons_succ]
            refine wpAnyH_take (i := 33) (v := .int .u32 s.a) rfl (by kernel_rfl) (by kernel_rfl) (by kernel_rfl) (fun _ _ _ h => h) (Or.inl ⟨by kernel_rfl, ?_⟩) hSL ?_
            · intro W hS
              have h5 := hS.c5
              go_simp
            simp only [Act.put, List.setIfInBounds_toArray, List.set_cons_zero, List.set_cons_succ]
            refine wpAnyH_take (i := 34) (v := .slice (some ⟨b, off, none⟩) len cap) rfl (by kernel_rfl) (by kernel_rfl) (by kernel_rfl) (fun _ _ _ h => h) (Or.inl ⟨by kernel_rfl, ?_⟩) hSL ?_
            · intro W hS
              go_simp
            simp only [Act.put, List.setIfInBounds_toArray, List.set_cons_zero, List.set_cons_succ]
            refine wpAnyH_take (i := 35) (v := .int .i64 (k : Int)) rfl (by kernel_rfl) (by kernel_rfl) (by kernel_rfl) (fun _ _ _ h => h) (Or.inl ⟨by kernel_rfl, ?_⟩) hSL ?_
            · intro W hS
              go_simp
            simp only [Act.put, List.setIfInBounds_toArray, List.set_cons_zero, List.set_cons_succ]
            refine wpAnyH_take (i := 36) (v := .pointer (some ⟨b, o, none⟩)) rfl (by kernel_rfl) (by kernel_rfl) (by kernel_rfl) (fun _ _ _ h => h) (Or.inl ⟨by kernel_rfl, ?_⟩) hSL ?_
            · intro W hS
              go_simp
            simp only [Act.put, List.setIfInBounds_toArray, List.set_cons_zero, List.set_cons_succ]
            refine wpAnyH_take (i := 37) (v := .pointer (some ⟨b, o + 4, none⟩)) rfl (by kernel_rfl) (by kernel_rfl) (by kernel_rfl) (fun _ _ _ h => h) (Or.inl ⟨by kernel_rfl, ?_⟩) hSL ?_
            · intro W hS
              go_simp
            simp only [Act.put, List.setIfInBounds_toArray, List.set_cons_zero, List.set_cons_succ]
            refine wpAnyH_take (i := 38) (v := .int .i64 s.n) rfl (by kernel_rfl) (by kernel_rfl) (by kernel_rfl) (fun _ _ _ h => h) (Or.inl ⟨by kernel_rfl, ?_⟩) hSL ?_
            · intro W hS
              have h4 := hS.c4
              go_simp
            simp only [Act.put, List.setIfInBounds_toArray, List.set_cons_zero, List.set_cons_succ]
            refine wpAnyH_ready (rs := [26]) (by kernel_rfl) (by simp) ?_
            refine AllReadyH.cons rfl (fun K hK => ?_) AllReadyH.nil
            go_simp
            go_at_call 13
            refine qA'.out.mono ?_
            rintro e wA ⟨⟨x1, c1, rfl, hr1⟩, cA, kA⟩
            have kA2 := kL2.trans (kA.mono zL)
            have zA := kA2.size
            have hSA := hcS'.out _ kA2
            refine hK.out _ _ hSA (fun _ => ?_)
            clear hK K
            try simp only [Act.put, List.setIfInBounds_toArray, List.set_cons_zero, List.set_cons_succ]
            refine wpAnyH_ready (rs := [27, 39]) (by kernel_rfl) (by simp) ?_
            refine AllReadyH.cons rfl (fun K hK => ?_) (AllReadyH.cons rfl (fun K hK => ?_) AllReadyH.nil)
            · go_simp
              rw [conv_row hr1]
              go_simp
              refine hK.out _ _ hSA (fun _ => ?_)
              clear hK K
              try simp only [Act.put, List.setIfInBounds_toArray, List.set_cons_zero, List.set_cons_succ]
              refine wpAnyH_ready (rs := [39]) (by kernel_rfl) (by simp) ?_
              refine AllReadyH.cons rfl (fun K hK => ?_) AllReadyH.nil
              · go_simp
                go_at_call 14
                refine (qB'.out _ cA).mono ?_
                rintro e wB ⟨⟨x2, c2, rfl, hr2⟩, cB, kB⟩
                have kB2 := kA2.trans (kB.mono zA)
                have hSB := hcS'.out _ kB2
                have hr3 := hr1.below kB
                refine hK.out _ _ hSB (fun _ => ?_)
                clear hK K
                try simp only [Act.put, List.setIfInBounds_toArray, List.set_cons_zero, List.set_cons_succ]
                refine wpAnyH_ready (rs := [40]) (by kernel_rfl) (by simp) ?_
                refine AllReadyH.cons rfl (fun K hK => ?_) AllReadyH.nil
                · go_simp
                  rw [conv_row hr2]
                  go_simp
                  refine hK.out _ _ hSB (fun _ => ?_)
                  clear hK K
                  try simp only [Act.put, List.setIfInBounds_toArray, List.set_cons_zero, List.set_cons_succ]
                  refine wpAnyH_take (i := 41) (v := .bool false) rfl (by kernel_rfl) (by kernel_rfl) (by kernel_rfl) (fun _ _ _ h => h) (Or.inl ⟨by kernel_rfl, ?_⟩) hSB ?_
                  · intro W hS
                    go_simp
                  simp only [Act.put, List.setIfInBounds_toArray, List.set_cons_zero, List.set_cons_succ]
                  refine wpAnyH_take (i := 42) (v := .bool false) rfl (by kernel_rfl) (by kernel_rfl) (by kernel_rfl) (fun _ _ _ h => h) (Or.inl ⟨by kernel_rfl, ?_⟩) hSB ?_
                  · intro W hS
                    go_simp
                  simp only [Act.put, List.setIfInBounds_toArray, List.set_cons_zero, List.set_cons_succ]
                  refine wpAnyH_done (by kernel_rfl) ?_ _
                  go_wp2_with fail
                  go_roundw
                  rotate_left
                  · show ((len : Int) - ((k : Int) + 1)).toNat < ((len : Int) - (k : Int)).toNat
                    omega
                  exact ⟨k + 1, m', by omega, by go_num, cB.self, kB2⟩
            · go_simp
              go_at_call 14
              refine (qB'.out _ cA).mono ?_
              rintro e wB ⟨⟨x2, c2, rfl, hr2⟩, cB, kB⟩
              have kB2 := kA2.trans (kB.mono zA)
              have hSB := hcS'.out _ kB2
              have hr3 := hr1.below kB
              refine hK.out _ _ hSB (fun _ => ?_)
              clear hK K
              try simp only [Act.put, List.setIfInBounds_toArray, List.set_cons_zero, List.set_cons_succ]
              refine wpAnyH_ready (rs := [27, 40]) (by kernel_rfl) (by simp) ?_
              refine AllReadyH.cons rfl (fun K hK => ?_) (AllReadyH.cons rfl (fun K hK => ?_) AllReadyH.nil)
              · go_simp
                rw [conv_row hr3]
                go_simp
                refine hK.out _ _ hSB (fun _ => ?_)
                clear hK K
                try simp only [Act.put, List.setIfInBounds_toArray, List.set_cons_zero, List.set_cons_succ]
                refine wpAnyH_ready (rs := [40]) (by kernel_rfl) (by simp) ?_
                refine AllReadyH.cons rfl (fun K hK => ?_) AllReadyH.nil
                · go_simp
                  rw [conv_row hr2]
                  go_simp
                  refine hK.out _ _ hSB (fun _ => ?_)
                  clear hK K
                  try simp only [Act.put, List.setIfInBounds_toArray, List.set_cons_zero, List.set_cons_succ]
                  refine wpAnyH_take (i := 41) (v := .bool false) rfl (by kernel_rfl) (by kernel_rfl) (by kernel_rfl) (fun _ _ _ h => h) (Or.inl ⟨by kernel_rfl, ?_⟩) hSB ?_
                  · intro W hS
                    go_simp
                  simp only [Act.put, List.setIfInBounds_toArray, List.set_cons_zero, List.set_cons_succ]
                  refine wpAnyH_take (i := 42) (v := .bool false) rfl (by kernel_rfl) (by kernel_rfl) (by kernel_rfl) (fun _ _ _ h => h) (Or.inl ⟨by kernel_rfl, ?_⟩) hSB ?_
                  · intro W hS
                    go_simp
                  simp only [Act.put, List.setIfInBounds_toArray, List.set_cons_zero, List.set_cons_succ]
                  refine wpAnyH_done (by kernel_rfl) ?_ _
                  go_wp2_with fail
                  go_roundw
                  rotate_left
                  · show ((len : Int) - ((k : Int) + 1)).toNat < ((len : Int) - (k : Int)).toNat
                    omega
                  exact ⟨k + 1, m', by omega, by go_num, cB.self, kB2⟩
              · go_simp
                rw [conv_row hr2]
                go_simp
                refine hK.out _ _ hSB (fun _ => ?_)
                clear hK K
                try simp only [Act.put, List.setIfInBounds_toArray, List.set_cons_zero, List.set_cons_succ]
                refine wpAnyH_ready (rs := [27]) (by kernel_rfl) (by simp) ?_
                refine AllReadyH.cons rfl (fun K hK => ?_) AllReadyH.nil
                · go_simp
                  rw [conv_row hr3]
                  go_simp
                  refine hK.out _ _ hSB (fun _ => ?_)
                  clear hK K
                  try simp only [Act.put, List.setIfInBounds_toArray, List.set_cons_zero, List.set_cons_succ]
                  refine wpAnyH_take (i := 41) (v := .bool false) rfl (by kernel_rfl) (by kernel_rfl) (by kernel_rfl) (fun _ _ _ h => h) (Or.inl ⟨by kernel_rfl, ?_⟩) hSB ?_
                  · intro W hS
                    go_simp
                  simp only [Act.put, List.setIfInBounds_toArray, List.set_cons_zero, List.set_cons_succ]
                  refine wpAnyH_take (i := 42) (v := .bool false) rfl (by kernel_rfl) (by kernel_rfl) (by kernel_rfl) (fun _ _ _ h => h) (Or.inl ⟨by kernel_rfl, ?_⟩) hSB ?_
                  · intro W hS
                    go_simp
                  simp only [Act.put, List.setIfInBounds_toArray, List.set_cons_zero, List.set_cons_succ]
                  refine wpAnyH_done (by kernel_rfl) ?_ _
                  go_wp2_with fail
                  go_roundw
                  rotate_left
                  · show ((len : Int) - ((k : Int) + 1)).toNat < ((len : Int) - (k : Int)).toNat
                    omega
                  exact ⟨k + 1, m', by omega, by go_num, cB.self, kB2⟩
    · obtain rfl : k = len := by omega
      have szw := kb.size
      have hBt := c.h.lt
      have hRt := c.r.lt
      go_wp2_with fail
      refine (Copy_any c.h).mono ?_
      rintro e w4 ⟨rfl, h4, k4⟩
      generalize hC : wr.heap.size = C at *
      have z4 := h4.lt
      have c4 := c.below (hC ▸ k4)
      go_wp2_with fail
      refine (Same_any c4.h h4).mono ?_
      rintro e w5 ⟨rfl, k5⟩
      have c5 := c4.below k5
      have h5 := h4.below k5 z4
      have z5 := h5.lt
      go_wp2_with fail
      refine (Same_any h5 c5.h).mono ?_
      rintro e w6 ⟨rfl, k6⟩
      have c6 := c5.below k6
      have h6 := h5.below k6 z5
      have d6 : Below w.heap.size w w6 := (kb.trans (k4.mono (by omega))).trans ((k5.mono (by omega)).trans (k6.mono (by omega)))
      go_wp2_with fail
      have neB : B ≠ C := by omega
      have neR : R ≠ C := by omega
      refine (Map_any h6 60 4 7 (by decide)).mono ?_
      rintro e w7 ⟨rfl, h7, k7⟩
      generalize errM (mapE m 60 4 7) = e7
      have c7 := c6.other k7 neB neR
      have d7 : Below w.heap.size w w7 := d6.trans (k7.below d6.size (by simp; omega))
      go_wp2_with fail
      refine (Unmap_any h7 60 1 (by decide)).mono ?_
      rintro e w8 ⟨rfl, h8, k8⟩
      generalize errM (canL (mapS m 60 4 7) 60 1 true) = e8
      have c8 := c7.other k8 neB neR
      have d8 : Below w.heap.size w w8 := d7.trans (k8.below d7.size (by simp; omega))
      have okU := unmapS_ok (mapS_ok c.ok 60 4 7) 60 1
      generalize unmapS (mapS m 60 4 7) 60 1 = mc at *
      have hr : Row8 (w8.alloc (.cells #[.int .u8 99] 5)) (some ⟨w8.heap.size, 0, none⟩) 1 [99] := row_new w8 [99] (by simp) 5
      have kx : Below w8.heap.size w8 (w8.alloc (.cells #[.int .u8 99] 5)) := (Below.refl _ _).alloc (Nat.le_refl _) _
      have h9 := h8.below kx h8.lt
      have c9 := c8.below kx
      have d9 := d8.trans (kx.mono d8.size)
      go_wp2_with fail
      generalize w8.alloc (.cells #[.int .u8 99] 5) = w9 at *
      refine (Poke_any h9 okU 0 (by decide) _ 1 1 [99] hr (by decide)).mono ?_
      rintro e w10 ⟨rfl, h10, k10⟩
      generalize errM (pokeE mc 0 [99]) = e9
      have c10 := c9.other k10 neB neR
      have d10 := d9.trans (k10.below d9.size (by simp; omega))
      clear hr kx
      go_wp2_with fail
      refine (alike_any c10).mono ?_
      rintro e w11 ⟨rfl, -, k11⟩
      go_wp2_with fail
      go_ret
      exact ⟨rfl, d10.trans (k11.mono d10.size)⟩
end Go.Proofs.Ytohkfkojheecoaa
