/- The document's memory: Get, Put, Read, Write. -/
import Derived.Test.YtohkfkojheecoaaR2
import Derived.Laws.BitsAllLaws
namespace Go.Proofs.Ytohkfkojheecoaa
open Go.RowKit
set_option linter.unusedVariables false
set_option linter.unusedSimpArgs false
set_option linter.unusedSectionVars false

theorem step64 {m : Mm} (ok : m.ok) (A k : Nat) (hk : k < 4) : bits .or .u64 (readL m A k) (IntKind.u64.wrap (m.b (A + k) * 2 ^ (8 * k))) = readL m A (k + 1) := by
  have hb := ok.b (A + k)
  obtain ⟨h0, h1⟩ := read_bd ok A k
  rw [readL]
  have hp : (2 : Int) ^ (8 * k) ≤ 2 ^ 24 := by rw [← cast_pow2, ← cast_pow2]; exact Int.ofNat_le.2 (Nat.pow_le_pow_right (by decide) (by omega))
  obtain ⟨Y, hY⟩ := Int.eq_ofNat_of_zero_le h0
  obtain ⟨Z, hZ⟩ := Int.eq_ofNat_of_zero_le hb.1
  rw [hY] at h1 ⊢
  rw [hZ] at hb ⊢
  have hY2 : Y < 2 ^ (8 * k) := by rw [← cast_pow2] at h1; omega
  have hk24 : 2 ^ (8 * k) ≤ 2 ^ 24 := Nat.pow_le_pow_right (by decide) (by omega)
  have hZ2 : Z * 2 ^ (8 * k) ≤ 255 * 2 ^ 24 := Nat.mul_le_mul (by omega) hk24
  have e : (Z : Int) * 2 ^ (8 * k) = ((Z * 2 ^ (8 * k) : Nat) : Int) := by rw [Int.natCast_mul, cast_pow2]
  rw [e, IntKind.wrap_u64, Int.emod_eq_of_lt (by omega) (by omega), u64_or_nat _ _ (by omega) (by omega), or_add _ hY2, Int.natCast_add]
set_option maxRecDepth 8000 in
theorem rGet {R : Nat} {m : Mm} {w : World} (h : RAt w R m) (ok : m.ok) (A n : Nat) (h4 : n ≤ 4) (hle : A + n ≤ 16384) :
    Calls Try.prog 50 #[mp R, .int .u32 A, .int .i64 n] w fun e w' => e = .returned (.int .u64 (readL m A n)) ∧ w = w' := by
  go_enter Try.func50, Try.ntmps50
  go_wp2_with fail
  go_loopw [7, 8] (fun vv ii W => ∃ k : Nat, k ≤ n ∧ ii = .int .i64 k ∧ vv = .int .u64 (readL m A k) ∧ W = w) (fun _ ii _ => (n - intOf ii).toNat)
  case atStart => exact ⟨0, by omega, rfl, rfl, rfl⟩
  case round =>
    obtain ⟨k, hk, rfl, rfl, rfl⟩ := hrel
    by_cases hlt : k < n
    · have hc := h.b (A + k) (by omega)
      have hix := ixB R (A + k) (by omega) .u32
      rw [show ((A + k : Nat) : Int) = (A : Int) + k by omega] at hix
      have hb := ok.b (A + k)
      go_wp2_with fail
      rw [step64 ok A k (by omega)]
      go_roundw
      case rel => exact ⟨k + 1, by omega, by go_num, rfl, trivial⟩
      case measure => simp [intOf]; omega
    · obtain rfl : k = n := by omega
      go_wp2_with fail
      go_ret
      exact ⟨rfl, rfl⟩
set_option maxRecDepth 8000 in
theorem rPut {R : Nat} {m : Mm} {w : World} (h : RAt w R m) (A n : Nat) (h4 : n ≤ 4) (hle : A + n ≤ 16384) (v : Int) (hv : U32 v) :
    Calls Try.prog 49 #[mp R, .int .u32 A, .int .i64 n, .int .u64 v] w fun e w' => e = .returned (.tuple #[]) ∧ RAt w' R (putB m A (bytesV v n)) ∧ But [R] w.heap.size w w' := by
  go_enter Try.func49, Try.ntmps49
  go_wp2_with fail
  go_loopw [8] (fun ii W => ∃ k : Nat, k ≤ n ∧ ii = .int .i64 k ∧ RAt W R (putB m A (bytesV v k)) ∧ But [R] w.heap.size w W) (fun ii _ => (n - intOf ii).toNat)
  case atStart => exact ⟨0, by omega, rfl, by rw [show bytesV v 0 = [] from rfl, putB_nil]; exact h, But.refl _ _ _⟩
  case round =>
    obtain ⟨k, hk, rfl, hx, kx⟩ := hrel
    by_cases hlt : k < n
    · have hc := hx.b (A + k) (by omega)
      have hf := hx.fr (64 + (A + k))
      have hix := ixB R (A + k) (by omega) .u32
      rw [show ((A + k : Nat) : Int) = (A : Int) + k by omega] at hix
      have hx' : RAt (wr.setCell ⟨R, 64 + (A + k), none⟩ (.int .u8 (v / 2 ^ (8 * k) % 256))) R (putB m A (bytesV v (k + 1))) := hx.set (64 + (A + k)) _ _ fun cs c => by
        refine c.set_b (A + k) (by omega) _ _ rfl (fun j => ?_)
        rw [putB_snoc]
      have kx' := kx.setCell (p := ⟨R, 64 + (A + k), none⟩) (by simp) (.int .u8 (v / 2 ^ (8 * k) % 256))
      clear kx hx
      go_wp2_with fail
      go_roundw
      case rel => exact ⟨k + 1, by omega, by go_num, hx', kx'⟩
      case measure => simp [intOf]; omega
    · obtain rfl : k = n := by omega
      go_wp2_with fail
      exact bodyPost_end (v := .tuple #[]) (by simp [results, Try.results49, go_sem]) rfl ⟨rfl, hx, kx⟩
set_option maxRecDepth 8000 in
theorem rWrite_none {R : Nat} {m : Mm} {w : World} (h : RAt w R m) (ok : m.ok) (A : Nat) (hA : A ≤ 4294967295) (n v : Int) (hv : U32 v) (hl : lackL m A 2 (numL n) = none) :
    Calls Try.prog 28 #[mp R, .int .u32 A, .int .i64 n, .int .u32 v] w fun e w' => e = .returned (.tuple #[fltV 0 0 0 0, .bool true]) ∧ RAt w' R (wroteS m A n v) ∧ But [R] w.heap.size w w' := by
  have hn := num_bd n
  have hsz := fun w => rSize n w
  have kF := (Below.refl w.heap.size w).alloc (Nat.le_refl _) (.cells #[.int .i64 0, .int .u32 0, .int .u32 0, .int .i64 0] 51)
  have A4 := Four.begun w 0 0 0 0 51
  have zF := size_of_cell A4.c0
  have hF := h.alloc (.cells #[.int .i64 0, .int .u32 0, .int .u32 0, .int .i64 0] 51)
  have hR := h.lt
  have he := lack_end ok (a := A) (by omega) hn.2 hl hn.1
  have hLk := fun w (h : RAt w R m) => rLacks_none h ok A (numL n) hA 2 (by omega) hn.2 hl
  unfold wroteS
  generalize numL n = q at *
  clear hl
  go_enter Try.func28, Try.ntmps28
  go_wp2_with (first | (go_at_call 47; refine (hsz _).mono ?_; rintro e w' ⟨rfl, rfl⟩))
  generalize w.alloc (.cells #[.int .i64 0, .int .u32 0, .int .u32 0, .int .i64 0] 51) = wF at *
  generalize hFs : w.heap.size = F at *
  have hFs' := hid hFs
  clear hFs
  refine (hLk _ hF).mono ?_
  rintro e w1 ⟨rfl, k1⟩
  replace A4 := A4.but (But.of k1 []) zF (by simp)
  have h1 := hF.below k1 (by omega)
  have z1 := k1.size
  have kb := kF.trans (k1.mono (by omega))
  have kG := (Below.refl w1.heap.size w1).alloc (Nat.le_refl _) (.cells #[.int .i64 0, .int .u32 0, .int .u32 0, .int .i64 0] 51)
  have G4 := Four.begun w1 0 0 0 0 51
  have zG := size_of_cell G4.c0
  replace A4 := A4.but (But.of kG []) (by omega) (by simp)
  have h2 := h1.below kG (by omega)
  have kc := kb.trans (kG.mono (by omega))
  clear hLk h1 hF kF k1 h hsz kb
  have zGG := kG.size
  have hne : R ≠ F := by omega
  have hP := rPut h2 A q hn.2 (by omega) v hv
  go_wp2_with fail
  generalize w1.alloc (.cells #[.int .i64 0, .int .u32 0, .int .u32 0, .int .i64 0] 51) = w2 at *
  generalize w1.heap.size = G at *
  refine hP.mono ?_
  rintro e w3 ⟨rfl, h3, k3⟩
  have z2 := size_of_cell A4.c0
  replace A4 := A4.but k3 z2 (by simp; omega)
  replace G4 := G4.but k3 zG (by simp; omega)
  have kd := (But.of kc [R]).trans (k3.mono (by omega) (fun k hk => .inl hk))
  obtain ⟨g0, g1, g2, g3, -⟩ := G4
  have hst := A4.stored 0 0 0 0
  have kS := (kd.mono (S' := [R, F]) (Nat.le_refl _) (fun k hk => .inl (by simp at hk ⊢; omega))).stored4 (K := F) (by simp) (.int .i64 0) (.int .u32 0) (.int .u32 0) (.int .i64 0)
  replace kS := kS.mono (S' := [R]) (Nat.le_refl _) (fun k hk => by simp at hk ⊢; omega)
  have h4 : RAt ((((w3.setCell ⟨F, 0, none⟩ (.int .i64 0)).setCell ⟨F, 1, none⟩ (.int .u32 0)).setCell ⟨F, 2, none⟩ (.int .u32 0)).setCell ⟨F, 3, none⟩ (.int .i64 0)) R (putB m A (bytesV v q)) := (((h3.other hne).other hne).other hne).other hne
  obtain ⟨c0, c1, c2, c3, f⟩ := A4
  have f0 := f 0
  have f1 := f 1
  have f2 := f 2
  have f3 := f 3
  clear f
  go_wp2_with fail
  clear c0 c1 c2 c3 f0 f1 f2 f3 g0 g1 g2 g3
  generalize ((((w3.setCell ⟨F, 0, none⟩ (.int .i64 0)).setCell ⟨F, 1, none⟩ (.int .u32 0)).setCell ⟨F, 2, none⟩ (.int .u32 0)).setCell ⟨F, 3, none⟩ (.int .i64 0)) = w7 at *
  obtain ⟨d0, d1, d2, d3, -⟩ := hst
  exact bodyPost_ret (v := .tuple #[fltV 0 0 0 0, .bool true]) (by simp [results, Try.results28, go_sem, d0, d1, d2, d3]) rfl ⟨rfl, h4, by rw [hFs'.out]; exact kS⟩
set_option maxRecDepth 8000 in
theorem rWrite_some {R : Nat} {m : Mm} {w : World} (h : RAt w R m) (ok : m.ok) (A j : Nat) (hA : A ≤ 4294967295) (n v : Int) (hl : lackL m A 2 (numL n) = some j) :
    Calls Try.prog 28 #[mp R, .int .u32 A, .int .i64 n, .int .u32 v] w fun e w' => e = .returned (.tuple #[fltV 1 0 ((A + j) % 4294967296) 2, .bool false]) ∧ Below w.heap.size w w' := by
  have hn := num_bd n
  have hsz := fun w => rSize n w
  have kF := (Below.refl w.heap.size w).alloc (Nat.le_refl _) (.cells #[.int .i64 0, .int .u32 0, .int .u32 0, .int .i64 0] 51)
  have A4 := Four.begun w 0 0 0 0 51
  have zF := size_of_cell A4.c0
  have hF := h.alloc (.cells #[.int .i64 0, .int .u32 0, .int .u32 0, .int .i64 0] 51)
  have hR := h.lt
  have hLk := fun w (h : RAt w R m) => rLacks_some h ok A (numL n) j hA 2 (by omega) hn.2 hl
  generalize numL n = q at *
  clear hl
  go_enter Try.func28, Try.ntmps28
  go_wp2_with (first | (go_at_call 47; refine (hsz _).mono ?_; rintro e w' ⟨rfl, rfl⟩))
  generalize w.alloc (.cells #[.int .i64 0, .int .u32 0, .int .u32 0, .int .i64 0] 51) = wF at *
  generalize hFs : w.heap.size = F at *
  have hFs' := hid hFs
  clear hFs
  refine (hLk _ hF).mono ?_
  rintro e w1 ⟨rfl, k1⟩
  replace A4 := A4.but (But.of k1 []) zF (by simp)
  have h1 := hF.below k1 (by omega)
  have z1 := k1.size
  have kb := kF.trans (k1.mono (by omega))
  have kG := (Below.refl w1.heap.size w1).alloc (Nat.le_refl _) (.cells #[.int .i64 1, .int .u32 0, .int .u32 (((A : Int) + j) % 4294967296), .int .i64 2] 51)
  have G4 := Four.begun w1 1 0 (((A : Int) + j) % 4294967296) 2 51
  have zG := size_of_cell G4.c0
  replace A4 := A4.but (But.of kG []) (by omega) (by simp)
  have h2 := h1.below kG (by omega)
  have kc := kb.trans (kG.mono (by omega))
  clear hLk h1 hF kF k1 h hsz kb
  obtain ⟨g0, g1, g2, g3, -⟩ := G4
  have hst := A4.stored 1 0 (((A : Int) + j) % 4294967296) 2
  have kS := (But.of kc [F]).stored4 (K := F) (by simp) (.int .i64 1) (.int .u32 0) (.int .u32 (((A : Int) + j) % 4294967296)) (.int .i64 2)
  obtain ⟨c0, c1, c2, c3, f⟩ := A4
  have f0 := f 0
  have f1 := f 1
  have f2 := f 2
  have f3 := f 3
  clear f
  go_wp2_with fail
  clear c0 c1 c2 c3 f0 f1 f2 f3 g0 g1 g2 g3
  generalize (((((w1.alloc (.cells #[.int .i64 1, .int .u32 0, .int .u32 (((A : Int) + j) % 4294967296), .int .i64 2] 51)).setCell ⟨F, 0, none⟩ (.int .i64 1)).setCell ⟨F, 1, none⟩ (.int .u32 0)).setCell ⟨F, 2, none⟩ (.int .u32 (((A : Int) + j) % 4294967296))).setCell ⟨F, 3, none⟩ (.int .i64 2)) = w7 at *
  obtain ⟨d0, d1, d2, d3, -⟩ := hst
  exact bodyPost_ret (v := .tuple #[fltV 1 0 (((A : Int) + j) % 4294967296) 2, .bool false]) (by simp [results, Try.results28, go_sem, d0, d1, d2, d3]) rfl ⟨rfl, by rw [hFs'.out]; exact kS.below (Nat.le_refl _) (by simp)⟩
end Go.Proofs.Ytohkfkojheecoaa
