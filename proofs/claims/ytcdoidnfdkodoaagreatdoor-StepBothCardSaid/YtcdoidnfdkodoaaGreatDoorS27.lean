import Derived.Test.YtcdoidnfdkodoaaGreatDoorS24
import Derived.Test.YtcdoidnfdkodoaaGreatDoorS25
import Derived.Test.YtcdoidnfdkodoaaGreatDoorS26
namespace Go.Proofs.YtcdoidnfdkodoaaGreatDoor
open Go.RowKit
set_option linter.unusedVariables false
set_option linter.unusedSimpArgs false
set_option linter.unusedSectionVars false
section
variable {w : World} {N B : Nat} {a : Option Addr} {len cap : Nat} {zs : List Int} {p : Nat} {c m : Int}
set_option maxRecDepth 8000 in
theorem place_sno (R : Rd w N B a len cap zs p c m) (h3 : ¬ m / 64 % 4 = 3) (h4 : m % 8 = 4) (h5 : ¬ p + 1 ≤ zs.length) :
    Calls Tryz.prog 270 #[rp B] w fun e w' => e = .panicked (errP 10) ∧ But [B] w.heap.size w w' := by
  have hH := fun w => highest_any m R.mb w
  have hL := fun w => lowest3_any m R.mb w
  have F := PF.start R 31 z6
  have hB := R.lt
  have hN := Lib.hid (fun W (R : Rd W N B a len cap zs p c m) => next1_no R h5)
  generalize m % 8 = rm at *
  generalize m / 64 % 4 = how at *
  subst h4
  go_enter Tryz.func270, Tryz.ntmps270
  go_wp2_with fail
  generalize w.alloc (.cells z6 31) = w1 at *
  refine wp_region_held_drew (S := fun W => PF w W N B a len cap zs p c m 31 z6) (by kernel_rfl) F.drew (fun hHeld => ?_)
  refine wpAnyH_take (i := 0) (v := ?_) rfl (by kernel_rfl) (by kernel_rfl) (by kernel_rfl) (fun _ _ _ h => h) (Or.inl ⟨by kernel_rfl, ?_⟩) hHeld ?_
  rotate_left
  · intro W hS
    go_simp
    try rfl
  simp only [Act.put, List.setIfInBounds_toArray, List.set_cons_zero, List.set_cons_succ, List.getElem_toArray, List.getElem_cons_succ, List.getElem_cons_zero]
  refine wpAnyH_take (i := 1) (v := ?_) rfl (by kernel_rfl) (by kernel_rfl) (by kernel_rfl) (fun _ _ _ h => h) (Or.inl ⟨by kernel_rfl, ?_⟩) hHeld ?_
  rotate_left
  · intro W hS
    go_simp
    try rfl
  simp only [Act.put, List.setIfInBounds_toArray, List.set_cons_zero, List.set_cons_succ, List.getElem_toArray, List.getElem_cons_succ, List.getElem_cons_zero]
  refine wpAnyH_take (i := 2) (v := ?_) rfl (by kernel_rfl) (by kernel_rfl) (by kernel_rfl) (fun _ _ _ h => h) (Or.inl ⟨by kernel_rfl, ?_⟩) hHeld ?_
  rotate_left
  · intro W hS
    go_simp
    try rfl
  simp only [Act.put, List.setIfInBounds_toArray, List.set_cons_zero, List.set_cons_succ, List.getElem_toArray, List.getElem_cons_succ, List.getElem_cons_zero]
  refine wpAnyH_take (i := 3) (v := ?_) rfl (by kernel_rfl) (by kernel_rfl) (by kernel_rfl) (fun _ _ _ h => h) (Or.inl ⟨by kernel_rfl, ?_⟩) hHeld ?_
  rotate_left
  · intro W hS
    have c3 := hS.r.c3
    go_simp
    try rfl
  simp only [Act.put, List.setIfInBounds_toArray, List.set_cons_zero, List.set_cons_succ, List.getElem_toArray, List.getElem_cons_succ, List.getElem_cons_zero]
  refine wpAnyH_take (i := 5) (v := ?_) rfl (by kernel_rfl) (by kernel_rfl) (by kernel_rfl) (fun _ _ _ h => h) (Or.inl ⟨by kernel_rfl, ?_⟩) hHeld ?_
  rotate_left
  · intro W hS
    go_simp
    try rfl
  simp only [Act.put, List.setIfInBounds_toArray, List.set_cons_zero, List.set_cons_succ, List.getElem_toArray, List.getElem_cons_succ, List.getElem_cons_zero]
  refine wpAnyH_take (i := 6) (v := ?_) rfl (by kernel_rfl) (by kernel_rfl) (by kernel_rfl) (fun _ _ _ h => h) (Or.inl ⟨by kernel_rfl, ?_⟩) hHeld ?_
  rotate_left
  · intro W hS
    go_simp
    try rfl
  simp only [Act.put, List.setIfInBounds_toArray, List.set_cons_zero, List.set_cons_succ, List.getElem_toArray, List.getElem_cons_succ, List.getElem_cons_zero]
  refine wpAnyH_take (i := 7) (v := ?_) rfl (by kernel_rfl) (by kernel_rfl) (by kernel_rfl) (fun _ _ _ h => h) (Or.inl ⟨by kernel_rfl, ?_⟩) hHeld ?_
  rotate_left
  · intro W hS
    go_simp
    try rfl
  simp only [Act.put, List.setIfInBounds_toArray, List.set_cons_zero, List.set_cons_succ, List.getElem_toArray, List.getElem_cons_succ, List.getElem_cons_zero]
  refine wpAnyH_take (i := 8) (v := ?_) rfl (by kernel_rfl) (by kernel_rfl) (by kernel_rfl) (fun _ _ _ h => h) (Or.inl ⟨by kernel_rfl, ?_⟩) hHeld ?_
  rotate_left
  · intro W hS
    have c3 := hS.r.c3
    go_simp
    try rfl
  simp only [Act.put, List.setIfInBounds_toArray, List.set_cons_zero, List.set_cons_succ, List.getElem_toArray, List.getElem_cons_succ, List.getElem_cons_zero]
  refine wpAnyH_ready (rs := [4]) (by kernel_rfl) (by simp) ?_
  refine AllReadyH.cons rfl (fun K hK => ?_) AllReadyH.nil
  go_simp
  with_reducible refine (hH _).mono ?_
  rintro e w2 ⟨rfl, rfl⟩
  refine hK.out _ _ hHeld (fun _ => ?_)
  clear hK K
  try simp only [Act.put, List.setIfInBounds_toArray, List.set_cons_zero, List.set_cons_succ]
  refine wpAnyH_ready (rs := [9]) (by kernel_rfl) (by simp) ?_
  refine AllReadyH.cons rfl (fun K hK => ?_) AllReadyH.nil
  go_simp
  with_reducible refine (hL _).mono ?_
  rintro e w2 ⟨rfl, rfl⟩
  refine hK.out _ _ hHeld (fun _ => ?_)
  clear hK K
  try simp only [Act.put, List.setIfInBounds_toArray, List.set_cons_zero, List.set_cons_succ]
  refine wpAnyH_take (i := 10) (v := ?_) rfl (by kernel_rfl) (by kernel_rfl) (by kernel_rfl) (fun _ _ _ h => h) (Or.inl ⟨by kernel_rfl, ?_⟩) hHeld ?_
  rotate_left
  · intro W hS
    go_simp
    try rfl
  simp only [Act.put, List.setIfInBounds_toArray, List.set_cons_zero, List.set_cons_succ, List.getElem_toArray, List.getElem_cons_succ, List.getElem_cons_zero]
  refine wpAnyH_take (i := 11) (v := ?_) rfl (by kernel_rfl) (by kernel_rfl) (by kernel_rfl) (fun _ _ _ h => h) (Or.inl ⟨by kernel_rfl, ?_⟩) hHeld ?_
  rotate_left
  · intro W hS
    go_simp
    try rfl
  simp only [Act.put, List.setIfInBounds_toArray, List.set_cons_zero, List.set_cons_succ, List.getElem_toArray, List.getElem_cons_succ, List.getElem_cons_zero]
  refine wpAnyH_done (by kernel_rfl) ?_ _
  generalize w1.drew = w2 at *
  go_upto_region 5 with ((with_reducible refine store_op_as rfl _ _ rfl (op6 (onMem 0 4 (-1) 1)) (op6_size _) (op6_one _) rfl rfl ?_); intro W3 kO b3)
  have F1 := hHeld.below b3
  have hK := hHeld.lt
  generalize w2.heap.size = K at *
  go_wp2_with (first | ((with_reducible refine (hN.out _ F1.r).mono ?_); rintro e W4 ⟨rfl, b4⟩))
  exact ⟨rfl, rfl, F1.k.trans (But.of (b4.mono F1.k.size) _)⟩
theorem place_yes (R : Rd w N B a len cap zs p c m) {o : On} {q : Nat} (h : placeM zs p m = some (o, q)) :
    Calls Tryz.prog 270 #[rp B] w fun e w' => e = .returned (opV o) ∧ Rd w' N B a len cap zs q c m ∧ But [B] w.heap.size w w' := by
  have hl := R.len_eq
  have hp := R.pl
  unfold placeM at h
  split at h
  · rename_i h3
    obtain ⟨rfl, rfl⟩ := Prod.mk.inj (Option.some.inj h)
    exact place_reg R h3
  rename_i h3
  have fin : ∀ {p' : Nat} {base x s : Int}, distM zs p' (m / 64 % 4) base x s = some (o, q) →
      (m / 64 % 4 = 0 ∧ base = 5 ∧ p' + distN 2 ≤ zs.length ∧ o = onMem (distV zs p' 2) (-1) x s ∧ q = p' + distN 2) ∨
      (m / 64 % 4 = 0 ∧ ¬ base = 5 ∧ o = onMem (distV zs p' (m / 64 % 4)) base x s ∧ q = p' + distN (m / 64 % 4)) ∨
      (¬ m / 64 % 4 = 0 ∧ p' + distN (m / 64 % 4) ≤ zs.length ∧ o = onMem (distV zs p' (m / 64 % 4)) base x s ∧ q = p' + distN (m / 64 % 4)) := by
    intro p' base x s h
    unfold distM at h
    rcases (by omega : m / 64 % 4 = 0 ∨ m / 64 % 4 = 1 ∨ m / 64 % 4 = 2) with e | e | e
    · rw [e, if_neg (by decide), if_neg (by decide)] at h
      by_cases hb : base = 5
      · rw [if_pos hb] at h
        split at h
        · obtain ⟨rfl, rfl⟩ := Prod.mk.inj (Option.some.inj h)
          exact .inl ⟨e, hb, by assumption, rfl, rfl⟩
        · cases h
      · rw [if_neg hb] at h
        obtain ⟨rfl, rfl⟩ := Prod.mk.inj (Option.some.inj h)
        exact .inr (.inl ⟨e, hb, by rw [e]; rfl, by rw [e]; rfl⟩)
    · rw [e, if_pos rfl] at h
      split at h
      · obtain ⟨rfl, rfl⟩ := Prod.mk.inj (Option.some.inj h)
        exact .inr (.inr ⟨by omega, by rw [e]; assumption, by rw [e]; rfl, by rw [e]; rfl⟩)
      · cases h
    · rw [e, if_neg (by decide), if_pos rfl] at h
      split at h
      · obtain ⟨rfl, rfl⟩ := Prod.mk.inj (Option.some.inj h)
        exact .inr (.inr ⟨by omega, by rw [e]; assumption, by rw [e]; rfl, by rw [e]; rfl⟩)
      · cases h
  have d0 : m / 64 % 4 = 0 → distN (m / 64 % 4) = 0 := fun e => by rw [e]; rfl
  split at h
  · rename_i h4
    split at h
    · rename_i h5
      split at h
      · rename_i h6
        rcases fin h with ⟨h7, h8, h9, rfl, rfl⟩ | ⟨h7, h8, rfl, rfl⟩ | ⟨h7, h9, rfl, rfl⟩
        · exact place_B1y R h3 h4 h5 h6 h7 h8 h9
        · exact place_B2y R h3 h4 h5 h6 h7 h8 (by rw [d0 h7]; omega)
        · exact place_B3y R h3 h4 h5 h6 h7 h9
      · rename_i h6
        rcases fin h with ⟨h7, h8, h9, rfl, rfl⟩ | ⟨h7, h8, rfl, rfl⟩ | ⟨h7, h9, rfl, rfl⟩
        · exact place_C1y R h3 h4 h5 h6 h7 h8 h9
        · exact place_C2y R h3 h4 h5 h6 h7 h8 (by rw [d0 h7]; omega)
        · exact place_C3y R h3 h4 h5 h6 h7 h9
    · cases h
  · rename_i h4
    rcases fin h with ⟨h7, h8, h9, rfl, rfl⟩ | ⟨h7, h8, rfl, rfl⟩ | ⟨h7, h9, rfl, rfl⟩
    · exact place_A1y R h3 h4 h7 h8 h9
    · exact place_A2y R h3 h4 h7 h8 (by rw [d0 h7]; omega)
    · exact place_A3y R h3 h4 h7 h9
theorem place_no (R : Rd w N B a len cap zs p c m) (h : placeM zs p m = none) :
    Calls Tryz.prog 270 #[rp B] w fun e w' => e = .panicked (errP 10) ∧ But [B] w.heap.size w w' := by
  have hl := R.len_eq
  have hp := R.pl
  unfold placeM at h
  split at h
  · cases h
  rename_i h3
  have fin : ∀ {p' : Nat} {base x s : Int}, distM zs p' (m / 64 % 4) base x s = none →
      (m / 64 % 4 = 0 ∧ base = 5 ∧ ¬ p' + distN 2 ≤ zs.length) ∨ (¬ m / 64 % 4 = 0 ∧ ¬ p' + distN (m / 64 % 4) ≤ zs.length) := by
    intro p' base x s h
    unfold distM at h
    rcases (by omega : m / 64 % 4 = 0 ∨ m / 64 % 4 = 1 ∨ m / 64 % 4 = 2) with e | e | e
    · rw [e, if_neg (by decide), if_neg (by decide)] at h
      by_cases hb : base = 5
      · rw [if_pos hb] at h
        split at h
        · cases h
        · exact .inl ⟨e, hb, by assumption⟩
      · rw [if_neg hb] at h
        cases h
    · rw [e, if_pos rfl] at h
      split at h
      · cases h
      · exact .inr ⟨by omega, by rw [e]; assumption⟩
    · rw [e, if_neg (by decide), if_pos rfl] at h
      split at h
      · cases h
      · exact .inr ⟨by omega, by rw [e]; assumption⟩
  split at h
  · rename_i h4
    split at h
    · rename_i h5
      split at h
      · rename_i h6
        rcases fin h with ⟨h7, h8, h9⟩ | ⟨h7, h9⟩
        · exact place_B1n R h3 h4 h5 h6 h7 h8 h9
        · exact place_B3n R h3 h4 h5 h6 h7 h9
      · rename_i h6
        rcases fin h with ⟨h7, h8, h9⟩ | ⟨h7, h9⟩
        · exact place_C1n R h3 h4 h5 h6 h7 h8 h9
        · exact place_C3n R h3 h4 h5 h6 h7 h9
    · exact place_sno R h3 h4 (by assumption)
  · rename_i h4
    rcases fin h with ⟨h7, h8, h9⟩ | ⟨h7, h9⟩
    · exact place_A1n R h3 h4 h7 h8 h9
    · exact place_A3n R h3 h4 h7 h9
end
end Go.Proofs.YtcdoidnfdkodoaaGreatDoor
