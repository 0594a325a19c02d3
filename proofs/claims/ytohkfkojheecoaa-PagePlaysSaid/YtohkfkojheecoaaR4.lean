/- The document's memory: Read. -/
import Derived.Test.YtohkfkojheecoaaR3
namespace Go.Proofs.Ytohkfkojheecoaa
open Go.RowKit
set_option linter.unusedVariables false
set_option linter.unusedSimpArgs false
set_option linter.unusedSectionVars false

set_option maxHeartbeats 1000000 in
set_option maxRecDepth 8000 in
theorem rRead_none {R : Nat} {m : Mm} {w : World} (h : RAt w R m) (ok : m.ok) (A : Nat) (hA : A ≤ 4294967295) (n r0 : Int) (hl : lackL m A (singleL r0) (numL n) = none) :
    Calls Try.prog 29 #[mp R, .int .u32 A, .int .i64 n, .int .i64 r0] w fun e w' => e = .returned (.tuple #[.int .u32 (readL m A (numL n)), fltV 0 0 0 0, .bool true]) ∧ Below w.heap.size w w' := by
  have hn := num_bd n
  have hsz := fun w => rSize n w
  have kF := (Below.refl w.heap.size w).alloc (Nat.le_refl _) (.cells #[.int .i64 0, .int .u32 0, .int .u32 0, .int .i64 0] 51)
  have A4 := Four.begun w 0 0 0 0 51
  have zF := size_of_cell A4.c0
  have hF := h.alloc (.cells #[.int .i64 0, .int .u32 0, .int .u32 0, .int .i64 0] 51)
  have hR := h.lt
  have hr := single_or r0
  have he := lack_end ok (a := A) (by omega) hn.2 hl hn.1
  have hLk := fun w (h : RAt w R m) => rLacks_none h ok A (numL n) hA (singleL r0) hr hn.2 hl
  have hsg : (r0 = 2 ∧ singleL r0 = 2) ∨ (r0 = 4 ∧ singleL r0 = 4) ∨ ((r0 != 2) = true ∧ (r0 != 4) = true ∧ singleL r0 = 1) := by
    unfold singleL
    by_cases h2 : r0 = 2
    · exact .inl ⟨h2, by rw [if_pos h2]⟩
    · by_cases h4 : r0 = 4
      · exact .inr (.inl ⟨h4, by rw [if_neg h2, if_pos h4]⟩)
      · exact .inr (.inr ⟨by simpa using h2, by simpa using h4, by rw [if_neg h2, if_neg h4]⟩)
  generalize hq : numL n = q at *
  have hq' := hid hq
  clear hl hq
  generalize hrr : singleL r0 = r at *
  have hrr' := hid hrr
  clear hrr
  have hb2 := read_bd ok A q
  have hp32 : (2 : Int) ^ (8 * q) ≤ 4294967296 := by rw [← cast_pow2]; exact Int.ofNat_le.2 (Nat.le_trans (Nat.pow_le_pow_right (by decide) (show 8 * q ≤ 32 by omega)) (by decide))
  have hv : 0 ≤ readL m A q ∧ readL m A q < 4294967296 := by omega
  have hG := fun w (h : RAt w R m) => rGet h ok A q hn.2 (by omega)
  generalize hrd : readL m A q = rd at *
  have hrd' := hid hrd
  clear hrd hb2 hp32
  rcases hsg with ⟨rfl, rfl⟩ | ⟨rfl, rfl⟩ | ⟨hx, hy, rfl⟩
  · go_enter Try.func29, Try.ntmps29
    go_wp2_with (first | (go_at_call 47; refine (hsz _).mono ?_; rintro e w' ⟨rfl, rfl⟩))
    generalize w.alloc (.cells #[.int .i64 0, .int .u32 0, .int .u32 0, .int .i64 0] 51) = wF at *
    generalize hFs : w.heap.size = F at *
    have hFs' := hid hFs
    clear hFs
    refine (hLk _ hF).mono ?_
    rintro e w1 ⟨rfl, k1⟩
    replace A4 := A4.but (But.of k1 []) zF (by simp)
    have h1 := hF.below k1 (by omega)
    have z1 := k1.size
    have kb := kF.trans (k1.mono (by omega))
    have kG := (Below.refl w1.heap.size w1).alloc (Nat.le_refl _) (.cells #[.int .i64 0, .int .u32 0, .int .u32 0, .int .i64 0] 51)
    have G4 := Four.begun w1 0 0 0 0 51
    have zG := size_of_cell G4.c0
    replace A4 := A4.but (But.of kG []) (by omega) (by simp)
    have h2 := h1.below kG (by omega)
    have kc := kb.trans (kG.mono (by omega))
    clear hLk h1 hF kF k1 h hsz kb
    have hst := A4.stored 0 0 0 0
    have kS := (But.of kc [F]).stored4 (K := F) (by simp) (.int .i64 0) (.int .u32 0) (.int .u32 0) (.int .i64 0)
    obtain ⟨c0, c1, c2, c3, f⟩ := A4
    have f0 := f 0
    have f1 := f 1
    have f2 := f 2
    have f3 := f 3
    clear f
    have hGG := hG _ h2
    go_wp2_with fail
    refine hGG.mono ?_
    rintro e w3 ⟨rfl, rfl⟩
    clear hGG
    go_wp2_with fail
    clear c0 c1 c2 c3 f0 f1 f2 f3
    generalize (((((w1.alloc (.cells #[.int .i64 0, .int .u32 0, .int .u32 0, .int .i64 0] 51)).setCell ⟨F, 0, none⟩ (.int .i64 0)).setCell ⟨F, 1, none⟩ (.int .u32 0)).setCell ⟨F, 2, none⟩ (.int .u32 0)).setCell ⟨F, 3, none⟩ (.int .i64 0)) = w7 at *
    obtain ⟨d0, d1, d2, d3, -⟩ := hst
    exact bodyPost_ret (v := .tuple #[.int .u32 rd, fltV 0 0 0 0, .bool true]) (by simp [results, Try.results29, go_sem, d0, d1, d2, d3]) rfl ⟨rfl, by rw [hFs'.out]; exact kS.below (Nat.le_refl _) (by simp)⟩
  · go_enter Try.func29, Try.ntmps29
    go_wp2_with (first | (go_at_call 47; refine (hsz _).mono ?_; rintro e w' ⟨rfl, rfl⟩))
    generalize w.alloc (.cells #[.int .i64 0, .int .u32 0, .int .u32 0, .int .i64 0] 51) = wF at *
    generalize hFs : w.heap.size = F at *
    have hFs' := hid hFs
    clear hFs
    refine (hLk _ hF).mono ?_
    rintro e w1 ⟨rfl, k1⟩
    replace A4 := A4.but (But.of k1 []) zF (by simp)
    have h1 := hF.below k1 (by omega)
    have z1 := k1.size
    have kb := kF.trans (k1.mono (by omega))
    have kG := (Below.refl w1.heap.size w1).alloc (Nat.le_refl _) (.cells #[.int .i64 0, .int .u32 0, .int .u32 0, .int .i64 0] 51)
    have G4 := Four.begun w1 0 0 0 0 51
    have zG := size_of_cell G4.c0
    replace A4 := A4.but (But.of kG []) (by omega) (by simp)
    have h2 := h1.below kG (by omega)
    have kc := kb.trans (kG.mono (by omega))
    clear hLk h1 hF kF k1 h hsz kb
    have hst := A4.stored 0 0 0 0
    have kS := (But.of kc [F]).stored4 (K := F) (by simp) (.int .i64 0) (.int .u32 0) (.int .u32 0) (.int .i64 0)
    obtain ⟨c0, c1, c2, c3, f⟩ := A4
    have f0 := f 0
    have f1 := f 1
    have f2 := f 2
    have f3 := f 3
    clear f
    have hGG := hG _ h2
    go_wp2_with fail
    refine hGG.mono ?_
    rintro e w3 ⟨rfl, rfl⟩
    clear hGG
    go_wp2_with fail
    clear c0 c1 c2 c3 f0 f1 f2 f3
    generalize (((((w1.alloc (.cells #[.int .i64 0, .int .u32 0, .int .u32 0, .int .i64 0] 51)).setCell ⟨F, 0, none⟩ (.int .i64 0)).setCell ⟨F, 1, none⟩ (.int .u32 0)).setCell ⟨F, 2, none⟩ (.int .u32 0)).setCell ⟨F, 3, none⟩ (.int .i64 0)) = w7 at *
    obtain ⟨d0, d1, d2, d3, -⟩ := hst
    exact bodyPost_ret (v := .tuple #[.int .u32 rd, fltV 0 0 0 0, .bool true]) (by simp [results, Try.results29, go_sem, d0, d1, d2, d3]) rfl ⟨rfl, by rw [hFs'.out]; exact kS.below (Nat.le_refl _) (by simp)⟩
  · go_enter Try.func29, Try.ntmps29
    go_wp2_with (first | (go_at_call 47; refine (hsz _).mono ?_; rintro e w' ⟨rfl, rfl⟩))
    generalize w.alloc (.cells #[.int .i64 0, .int .u32 0, .int .u32 0, .int .i64 0] 51) = wF at *
    generalize hFs : w.heap.size = F at *
    have hFs' := hid hFs
    clear hFs
    refine (hLk _ hF).mono ?_
    rintro e w1 ⟨rfl, k1⟩
    replace A4 := A4.but (But.of k1 []) zF (by simp)
    have h1 := hF.below k1 (by omega)
    have z1 := k1.size
    have kb := kF.trans (k1.mono (by omega))
    have kG := (Below.refl w1.heap.size w1).alloc (Nat.le_refl _) (.cells #[.int .i64 0, .int .u32 0, .int .u32 0, .int .i64 0] 51)
    have G4 := Four.begun w1 0 0 0 0 51
    have zG := size_of_cell G4.c0
    replace A4 := A4.but (But.of kG []) (by omega) (by simp)
    have h2 := h1.below kG (by omega)
    have kc := kb.trans (kG.mono (by omega))
    clear hLk h1 hF kF k1 h hsz kb
    have hst := A4.stored 0 0 0 0
    have kS := (But.of kc [F]).stored4 (K := F) (by simp) (.int .i64 0) (.int .u32 0) (.int .u32 0) (.int .i64 0)
    obtain ⟨c0, c1, c2, c3, f⟩ := A4
    have f0 := f 0
    have f1 := f 1
    have f2 := f 2
    have f3 := f 3
    clear f
    have hGG := hG _ h2
    go_wp2_with fail
    refine hGG.mono ?_
    rintro e w3 ⟨rfl, rfl⟩
    clear hGG
    go_wp2_with fail
    clear c0 c1 c2 c3 f0 f1 f2 f3
    generalize (((((w1.alloc (.cells #[.int .i64 0, .int .u32 0, .int .u32 0, .int .i64 0] 51)).setCell ⟨F, 0, none⟩ (.int .i64 0)).setCell ⟨F, 1, none⟩ (.int .u32 0)).setCell ⟨F, 2, none⟩ (.int .u32 0)).setCell ⟨F, 3, none⟩ (.int .i64 0)) = w7 at *
    obtain ⟨d0, d1, d2, d3, -⟩ := hst
    exact bodyPost_ret (v := .tuple #[.int .u32 rd, fltV 0 0 0 0, .bool true]) (by simp [results, Try.results29, go_sem, d0, d1, d2, d3]) rfl ⟨rfl, by rw [hFs'.out]; exact kS.below (Nat.le_refl _) (by simp)⟩
set_option maxHeartbeats 1000000 in
set_option maxRecDepth 8000 in
theorem rRead_some {R : Nat} {m : Mm} {w : World} (h : RAt w R m) (ok : m.ok) (A j : Nat) (hA : A ≤ 4294967295) (n r0 : Int) (hl : lackL m A (singleL r0) (numL n) = some j) :
    Calls Try.prog 29 #[mp R, .int .u32 A, .int .i64 n, .int .i64 r0] w fun e w' => e = .returned (.tuple #[.int .u32 0, fltV 1 0 ((A + j) % 4294967296) (singleL r0), .bool false]) ∧ Below w.heap.size w w' := by
  have hn := num_bd n
  have hsz := fun w => rSize n w
  have kF := (Below.refl w.heap.size w).alloc (Nat.le_refl _) (.cells #[.int .i64 0, .int .u32 0, .int .u32 0, .int .i64 0] 51)
  have A4 := Four.begun w 0 0 0 0 51
  have zF := size_of_cell A4.c0
  have hF := h.alloc (.cells #[.int .i64 0, .int .u32 0, .int .u32 0, .int .i64 0] 51)
  have hR := h.lt
  have hr := single_or r0
  have hLk := fun w (h : RAt w R m) => rLacks_some h ok A (numL n) j hA (singleL r0) hr hn.2 hl
  have hsg : (r0 = 2 ∧ singleL r0 = 2) ∨ (r0 = 4 ∧ singleL r0 = 4) ∨ ((r0 != 2) = true ∧ (r0 != 4) = true ∧ singleL r0 = 1) := by
    unfold singleL
    by_cases h2 : r0 = 2
    · exact .inl ⟨h2, by rw [if_pos h2]⟩
    · by_cases h4 : r0 = 4
      · exact .inr (.inl ⟨h4, by rw [if_neg h2, if_pos h4]⟩)
      · exact .inr (.inr ⟨by simpa using h2, by simpa using h4, by rw [if_neg h2, if_neg h4]⟩)
  generalize hq : numL n = q at *
  have hq' := hid hq
  clear hl hq
  generalize hrr : singleL r0 = r at *
  have hrr' := hid hrr
  clear hrr
  rcases hsg with ⟨rfl, rfl⟩ | ⟨rfl, rfl⟩ | ⟨hx, hy, rfl⟩
  · go_enter Try.func29, Try.ntmps29
    go_wp2_with (first | (go_at_call 47; refine (hsz _).mono ?_; rintro e w' ⟨rfl, rfl⟩))
    generalize w.alloc (.cells #[.int .i64 0, .int .u32 0, .int .u32 0, .int .i64 0] 51) = wF at *
    generalize hFs : w.heap.size = F at *
    have hFs' := hid hFs
    clear hFs
    refine (hLk _ hF).mono ?_
    rintro e w1 ⟨rfl, k1⟩
    replace A4 := A4.but (But.of k1 []) zF (by simp)
    have h1 := hF.below k1 (by omega)
    have z1 := k1.size
    have kb := kF.trans (k1.mono (by omega))
    have kG := (Below.refl w1.heap.size w1).alloc (Nat.le_refl _) (.cells #[.int .i64 1, .int .u32 0, .int .u32 (((A : Int) + j) % 4294967296), .int .i64 2] 51)
    have G4 := Four.begun w1 1 0 (((A : Int) + j) % 4294967296) 2 51
    have zG := size_of_cell G4.c0
    replace A4 := A4.but (But.of kG []) (by omega) (by simp)
    have h2 := h1.below kG (by omega)
    have kc := kb.trans (kG.mono (by omega))
    clear hLk h1 hF kF k1 h hsz kb
    go_wp2_with fail
    generalize w1.alloc (.cells #[.int .i64 1, .int .u32 0, .int .u32 (((A : Int) + j) % 4294967296), .int .i64 2] 51) = w2 at *
    generalize w1.heap.size = G at *
    have hst := (A4.stored 1 0 (((A : Int) + j) % 4294967296) 2).drew
    have kS := ((But.of kc [F]).stored4 (K := F) (by simp) (.int .i64 1) (.int .u32 0) (.int .u32 (((A : Int) + j) % 4294967296)) (.int .i64 2)).drew
    obtain ⟨g0, g1, g2, g3, -⟩ := G4
    obtain ⟨c0, c1, c2, c3, f⟩ := A4
    have f0 := f 0
    have f1 := f 1
    have f2 := f 2
    have f3 := f 3
    have hFG : ¬ F = G := by omega
    clear f h2 kc kG
    go_region
    clear c0 c1 c2 c3 f0 f1 f2 f3 g0 g1 g2 g3
    generalize ((((w2.setCell ⟨F, 0, none⟩ (.int .i64 1)).setCell ⟨F, 1, none⟩ (.int .u32 0)).setCell ⟨F, 2, none⟩ (.int .u32 (((A : Int) + j) % 4294967296))).setCell ⟨F, 3, none⟩ (.int .i64 2)).drew = w8 at *
    obtain ⟨d0, d1, d2, d3, -⟩ := hst
    go_wp2_with fail
    exact bodyPost_ret (v := .tuple #[.int .u32 0, fltV 1 0 (((A : Int) + j) % 4294967296) 2, .bool false]) (by simp [results, Try.results29, go_sem, d0, d1, d2, d3]) rfl ⟨rfl, by rw [hFs'.out]; exact kS.below (Nat.le_refl _) (by simp)⟩
  · go_enter Try.func29, Try.ntmps29
    go_wp2_with (first | (go_at_call 47; refine (hsz _).mono ?_; rintro e w' ⟨rfl, rfl⟩))
    generalize w.alloc (.cells #[.int .i64 0, .int .u32 0, .int .u32 0, .int .i64 0] 51) = wF at *
    generalize hFs : w.heap.size = F at *
    have hFs' := hid hFs
    clear hFs
    refine (hLk _ hF).mono ?_
    rintro e w1 ⟨rfl, k1⟩
    replace A4 := A4.but (But.of k1 []) zF (by simp)
    have h1 := hF.below k1 (by omega)
    have z1 := k1.size
    have kb := kF.trans (k1.mono (by omega))
    have kG := (Below.refl w1.heap.size w1).alloc (Nat.le_refl _) (.cells #[.int .i64 1, .int .u32 0, .int .u32 (((A : Int) + j) % 4294967296), .int .i64 4] 51)
    have G4 := Four.begun w1 1 0 (((A : Int) + j) % 4294967296) 4 51
    have zG := size_of_cell G4.c0
    replace A4 := A4.but (But.of kG []) (by omega) (by simp)
    have h2 := h1.below kG (by omega)
    have kc := kb.trans (kG.mono (by omega))
    clear hLk h1 hF kF k1 h hsz kb
    go_wp2_with fail
    generalize w1.alloc (.cells #[.int .i64 1, .int .u32 0, .int .u32 (((A : Int) + j) % 4294967296), .int .i64 4] 51) = w2 at *
    generalize w1.heap.size = G at *
    have hst := (A4.stored 1 0 (((A : Int) + j) % 4294967296) 4).drew
    have kS := ((But.of kc [F]).stored4 (K := F) (by simp) (.int .i64 1) (.int .u32 0) (.int .u32 (((A : Int) + j) % 4294967296)) (.int .i64 4)).drew
    obtain ⟨g0, g1, g2, g3, -⟩ := G4
    obtain ⟨c0, c1, c2, c3, f⟩ := A4
    have f0 := f 0
    have f1 := f 1
    have f2 := f 2
    have f3 := f 3
    have hFG : ¬ F = G := by omega
    clear f h2 kc kG
    go_region
    clear c0 c1 c2 c3 f0 f1 f2 f3 g0 g1 g2 g3
    generalize ((((w2.setCell ⟨F, 0, none⟩ (.int .i64 1)).setCell ⟨F, 1, none⟩ (.int .u32 0)).setCell ⟨F, 2, none⟩ (.int .u32 (((A : Int) + j) % 4294967296))).setCell ⟨F, 3, none⟩ (.int .i64 4)).drew = w8 at *
    obtain ⟨d0, d1, d2, d3, -⟩ := hst
    go_wp2_with fail
    exact bodyPost_ret (v := .tuple #[.int .u32 0, fltV 1 0 (((A : Int) + j) % 4294967296) 4, .bool false]) (by simp [results, Try.results29, go_sem, d0, d1, d2, d3]) rfl ⟨rfl, by rw [hFs'.out]; exact kS.below (Nat.le_refl _) (by simp)⟩
  · go_enter Try.func29, Try.ntmps29
    go_wp2_with (first | (go_at_call 47; refine (hsz _).mono ?_; rintro e w' ⟨rfl, rfl⟩))
    generalize w.alloc (.cells #[.int .i64 0, .int .u32 0, .int .u32 0, .int .i64 0] 51) = wF at *
    generalize hFs : w.heap.size = F at *
    have hFs' := hid hFs
    clear hFs
    refine (hLk _ hF).mono ?_
    rintro e w1 ⟨rfl, k1⟩
    replace A4 := A4.but (But.of k1 []) zF (by simp)
    have h1 := hF.below k1 (by omega)
    have z1 := k1.size
    have kb := kF.trans (k1.mono (by omega))
    have kG := (Below.refl w1.heap.size w1).alloc (Nat.le_refl _) (.cells #[.int .i64 1, .int .u32 0, .int .u32 (((A : Int) + j) % 4294967296), .int .i64 1] 51)
    have G4 := Four.begun w1 1 0 (((A : Int) + j) % 4294967296) 1 51
    have zG := size_of_cell G4.c0
    replace A4 := A4.but (But.of kG []) (by omega) (by simp)
    have h2 := h1.below kG (by omega)
    have kc := kb.trans (kG.mono (by omega))
    clear hLk h1 hF kF k1 h hsz kb
    go_wp2_with fail
    generalize w1.alloc (.cells #[.int .i64 1, .int .u32 0, .int .u32 (((A : Int) + j) % 4294967296), .int .i64 1] 51) = w2 at *
    generalize w1.heap.size = G at *
    have hst := (A4.stored 1 0 (((A : Int) + j) % 4294967296) 1).drew
    have kS := ((But.of kc [F]).stored4 (K := F) (by simp) (.int .i64 1) (.int .u32 0) (.int .u32 (((A : Int) + j) % 4294967296)) (.int .i64 1)).drew
    obtain ⟨g0, g1, g2, g3, -⟩ := G4
    obtain ⟨c0, c1, c2, c3, f⟩ := A4
    have f0 := f 0
    have f1 := f 1
    have f2 := f 2
    have f3 := f 3
    have hFG : ¬ F = G := by omega
    clear f h2 kc kG
    go_region
    clear c0 c1 c2 c3 f0 f1 f2 f3 g0 g1 g2 g3
    generalize ((((w2.setCell ⟨F, 0, none⟩ (.int .i64 1)).setCell ⟨F, 1, none⟩ (.int .u32 0)).setCell ⟨F, 2, none⟩ (.int .u32 (((A : Int) + j) % 4294967296))).setCell ⟨F, 3, none⟩ (.int .i64 1)).drew = w8 at *
    obtain ⟨d0, d1, d2, d3, -⟩ := hst
    go_wp2_with fail
    exact bodyPost_ret (v := .tuple #[.int .u32 0, fltV 1 0 (((A : Int) + j) % 4294967296) 1, .bool false]) (by simp [results, Try.results29, go_sem, d0, d1, d2, d3]) rfl ⟨rfl, by rw [hFs'.out]; exact kS.below (Nat.le_refl _) (by simp)⟩
end Go.Proofs.Ytohkfkojheecoaa
