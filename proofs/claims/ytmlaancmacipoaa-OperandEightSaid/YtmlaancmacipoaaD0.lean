/- What is done within: bytes read and written, or the panic. -/
import Derived.Test.YtmlaancmacipoaaP3
import Derived.Deep.RegionHeld3
import Derived.Deep.RegionWith
namespace Go.Proofs.Ytmlaancmacipoaa
open Go.RowKit
set_option linter.unusedVariables false
set_option linter.unusedSimpArgs false
set_option linter.unusedSectionVars false

abbrev cp (K : Nat) : Value := .pointer (some ⟨K, 0, none⟩)
theorem single_or (v : Int) : singleL v = 1 ∨ singleL v = 2 ∨ singleL v = 4 := by unfold singleL; split <;> (try split) <;> simp
theorem num_bd (n : Int) : 0 < numL n ∧ numL n ≤ 4 := by unfold numL; split <;> (try split) <;> omega
structure Boxes (w : World) (B K0 K1 K2 K3 : Nat) (m : Mm) (v1 v2 v3 : Value) : Prop where
  h : PAt w B m
  c0 : w.cell? ⟨K0, 0, none⟩ = some (mp B)
  c1 : w.cell? ⟨K1, 0, none⟩ = some v1
  c2 : w.cell? ⟨K2, 0, none⟩ = some v2
  c3 : w.cell? ⟨K3, 0, none⟩ = some v3
theorem Boxes.drewN {w : World} {B K0 K1 K2 K3 : Nat} {m : Mm} {v1 v2 v3 : Value} (b : Boxes w B K0 K1 K2 K3 m v1 v2 v3) (n : Nat) : Boxes (w.drewN n) B K0 K1 K2 K3 m v1 v2 v3 := ⟨⟨b.h.blk⟩, b.c0, b.c1, b.c2, b.c3⟩
theorem read_step {m : Mm} (ok : m.ok) (A k : Nat) (hk : k < 4) : bits .or .u32 (readL m A k) (m.b (A + k) % 4294967296 * 2 ^ (8 * k) % 4294967296) = readL m A (k + 1) := by
  have hb := ok.b (A + k)
  rw [Int.emod_eq_of_lt hb.1 (by omega)]
  exact or_byte _ _ k hk (read_bd ok A k) hb
theorem MAt.drewN {T : TypeId} {w : World} {B : Nat} {m : Mm} (h : MAt T w B m) (n : Nat) : MAt T (w.drewN n) B m := ⟨h.blk⟩
set_option maxRecDepth 8000 in
theorem read1_no {B K0 K1 K2 K3 K4 : Nat} {m : Mm} {w : World} (ok : m.ok) (A j : Nat) (hA : A ≤ 4294967295) (n rt : Int) (b : Boxes w B K0 K1 K2 K3 m (.int .u32 A) (.int .i64 n) (.int .i64 rt)) (hl : lackL m A (singleL rt) (numL n) = some j) :
    Calls Try.prog 62 #[cp K0, cp K1, cp K2, cp K3, cp K4] w fun e w' => e = .panicked (fltP ((A + j) % 4294967296) (singleL rt)) ∧ Below w.heap.size w w' := by
  have hr := single_or rt
  have hn := num_bd n
  have hno := fun w (h : PAt w B m) => reached_no h ok A (numL n) j hA (singleL rt) hr hn.2 hl
  have hnum := fun w => number_any n w
  have hsin := fun w => single_any rt w
  generalize singleL rt = r at *
  generalize numL n = k at *
  clear hl hr hn
  have c0 := b.c0
  have c1 := b.c1
  have c2 := b.c2
  have c3 := b.c3
  have hd : w.drew.cell? ⟨K0, 0, none⟩ = some (mp B) ∧ w.drew.cell? ⟨K1, 0, none⟩ = some (.int .u32 A) ∧ w.drew.cell? ⟨K2, 0, none⟩ = some (.int .i64 n) ∧ w.drew.cell? ⟨K3, 0, none⟩ = some (.int .i64 rt) ∧ PAt w.drew B m := ⟨c0, c1, c2, c3, b.h.drew⟩
  have kd : Below w.heap.size w w.drew := ⟨rfl, rfl, rfl, Nat.le_refl _, fun _ _ => rfl⟩
  go_enter Try.func62, Try.ntmps62
  go_wp2_with fail
  refine wp_region_held_drew (S := fun W => W.cell? ⟨K0, 0, none⟩ = some (mp B) ∧ W.cell? ⟨K1, 0, none⟩ = some (.int .u32 A) ∧ W.cell? ⟨K2, 0, none⟩ = some (.int .i64 n) ∧ W.cell? ⟨K3, 0, none⟩ = some (.int .i64 rt) ∧ PAt W B m) (by kernel_rfl) hd (fun hHeld => ?_)
  refine wpAnyH_take (i := 0) (v := mp B) rfl (by kernel_rfl) (by kernel_rfl) (by kernel_rfl) (fun _ _ _ h => h) (Or.inl ⟨by rfl, ?_⟩) hHeld ?_
  · intro W hS
    obtain ⟨s0, s1, s2, s3, s4⟩ := hS
    go_simp
  simp only [Act.put, List.setIfInBounds_toArray, List.set_cons_zero, List.set_cons_succ]
  refine wpAnyH_take (i := 1) (v := .int .u32 A) rfl (by kernel_rfl) (by kernel_rfl) (by kernel_rfl) (fun _ _ _ h => h) (Or.inl ⟨by rfl, ?_⟩) hHeld ?_
  · intro W hS
    obtain ⟨s0, s1, s2, s3, s4⟩ := hS
    go_simp
  simp only [Act.put, List.setIfInBounds_toArray, List.set_cons_zero, List.set_cons_succ]
  refine wpAnyH_take (i := 2) (v := .int .i64 n) rfl (by kernel_rfl) (by kernel_rfl) (by kernel_rfl) (fun _ _ _ h => h) (Or.inl ⟨by rfl, ?_⟩) hHeld ?_
  · intro W hS
    obtain ⟨s0, s1, s2, s3, s4⟩ := hS
    go_simp
  simp only [Act.put, List.setIfInBounds_toArray, List.set_cons_zero, List.set_cons_succ]
  refine wpAnyH_take (i := 4) (v := .int .i64 rt) rfl (by kernel_rfl) (by kernel_rfl) (by kernel_rfl) (fun _ _ _ h => h) (Or.inl ⟨by rfl, ?_⟩) hHeld ?_
  · intro W hS
    obtain ⟨s0, s1, s2, s3, s4⟩ := hS
    go_simp
  simp only [Act.put, List.setIfInBounds_toArray, List.set_cons_zero, List.set_cons_succ]
  refine wpAnyH_take (i := 8) (v := .int .i64 0) rfl (by kernel_rfl) (by kernel_rfl) (by kernel_rfl) (fun _ _ _ h => h) (Or.inl ⟨by rfl, ?_⟩) hHeld ?_
  · intro W hS
    obtain ⟨s0, s1, s2, s3, s4⟩ := hS
    go_simp
  simp only [Act.put, List.setIfInBounds_toArray, List.set_cons_zero, List.set_cons_succ]
  refine wpAnyH_ready (rs := [3]) (by kernel_rfl) (by simp) ?_
  refine AllReadyH.cons rfl (fun K hK => ?_) AllReadyH.nil
  go_simp
  go_at_call 60
  refine (hnum _).mono ?_
  rintro e w' ⟨rfl, rfl⟩
  refine hK.out _ _ hHeld (fun _ => ?_)
  clear hK K
  refine wpAnyH_ready (rs := [5]) (by kernel_rfl) (by simp) ?_
  refine AllReadyH.cons rfl (fun K hK => ?_) AllReadyH.nil
  go_simp
  go_at_call 63
  refine (hsin _).mono ?_
  rintro e w' ⟨rfl, rfl⟩
  refine hK.out _ _ hHeld (fun _ => ?_)
  clear hK K
  refine wpAnyH_ready (rs := [6]) (by kernel_rfl) (by simp) ?_
  refine AllReadyH.cons rfl (fun K hK => ?_) AllReadyH.nil
  go_simp
  go_at_call 59
  refine (hno _ hd.2.2.2.2).mono ?_
  rintro e w' ⟨rfl, rfl⟩
  exact ⟨rfl, rfl, kd⟩
set_option maxRecDepth 8000 in
theorem read1_yes {B K0 K1 K2 K3 K4 : Nat} {m : Mm} {w : World} (ok : m.ok) (A : Nat) (hA : A ≤ 4294967295) (n rt : Int) (b : Boxes w B K0 K1 K2 K3 m (.int .u32 A) (.int .i64 n) (.int .i64 rt)) (hl : lackL m A (singleL rt) (numL n) = none)
    (hK : B ≠ K4) (c4 : w.cell? ⟨K4, 0, none⟩ = some (.int .u32 0)) (f4 : w.frozen? ⟨K4, 0, none⟩ = false) :
    Calls Try.prog 62 #[cp K0, cp K1, cp K2, cp K3, cp K4] w fun e w' => e = .returned (.tuple #[]) ∧ w'.cell? ⟨K4, 0, none⟩ = some (.int .u32 (readL m A (numL n))) ∧ But [K4] w.heap.size w w' := by
  have hr := single_or rt
  have hn := num_bd n
  have he := lack_end ok (a := A) (by omega) hn.2 hl hn.1
  have hyes := fun w (h : PAt w B m) => reached_yes h ok A (numL n) hA (singleL rt) hr hn.1 hn.2 hl
  have hnum := fun w => number_any n w
  have hsin := fun w => single_any rt w
  generalize singleL rt = r at *
  generalize numL n = q at *
  clear hl hr
  have c0 := b.c0
  have c1 := b.c1
  have c2 := b.c2
  have c3 := b.c3
  have hd : w.drew.cell? ⟨K0, 0, none⟩ = some (mp B) ∧ w.drew.cell? ⟨K1, 0, none⟩ = some (.int .u32 A) ∧ w.drew.cell? ⟨K2, 0, none⟩ = some (.int .i64 n) ∧ w.drew.cell? ⟨K3, 0, none⟩ = some (.int .i64 rt) ∧ PAt w.drew B m := ⟨c0, c1, c2, c3, b.h.drew⟩
  have kd : But [K4] w.heap.size w w.drew := (But.refl _ _ _).drew
  have c4d : w.drew.cell? ⟨K4, 0, none⟩ = some (.int .u32 0) := c4
  have f4d : w.drew.frozen? ⟨K4, 0, none⟩ = false := f4
  go_enter Try.func62, Try.ntmps62
  go_wp2_with fail
  go_region_held3 (fun W => W.cell? ⟨K0, 0, none⟩ = some (mp B) ∧ W.cell? ⟨K1, 0, none⟩ = some (.int .u32 A) ∧ W.cell? ⟨K2, 0, none⟩ = some (.int .i64 n) ∧ W.cell? ⟨K3, 0, none⟩ = some (.int .i64 rt) ∧ PAt W B m)
    (first | exact hd | assumption)
    (first | (go_at_call 60; refine (hnum _).mono ?_; rintro e w' ⟨rfl, rfl⟩) | (go_at_call 63; refine (hsin _).mono ?_; rintro e w' ⟨rfl, rfl⟩) | (go_at_call 59; refine (hyes _ hd.2.2.2.2).mono ?_; rintro e w' ⟨rfl, rfl⟩))
  clear c0 c1 c2 c3 c4 f4
  have hB := hd.2.2.2.2
  clear hd b
  generalize w.drew = w1 at *
  go_wp2_with fail
  go_loopw [15] (fun ii W => ∃ k : Nat, k ≤ q ∧ ii = .int .i64 k ∧ PAt W B m ∧ W.cell? ⟨K4, 0, none⟩ = some (.int .u32 (readL m A k)) ∧ W.frozen? ⟨K4, 0, none⟩ = false ∧ But [K4] w.heap.size w W) (fun ii _ => (q - intOf ii).toNat)
  case atStart => exact ⟨0, by omega, rfl, hB, c4d, f4d, kd⟩
  case round =>
    obtain ⟨k, hk, rfl, hx, cx, fx, kx⟩ := hrel
    by_cases hlt : k < q
    · have hc := hx.b (A + k) (by omega)
      rw [show 64 + (A + k) = 64 + A + k by omega] at hc
      go_wp2_with fail
      go_region
      rw [read_step ok A k (by omega)]
      have hx' : PAt (wr.setCell ⟨K4, 0, none⟩ (.int .u32 (readL m A (k + 1)))).drew B m := (hx.other hK).drew
      have cx' : (wr.setCell ⟨K4, 0, none⟩ (.int .u32 (readL m A (k + 1)))).drew.cell? ⟨K4, 0, none⟩ = some (.int .u32 (readL m A (k + 1))) := by
        rw [World.cell?_drew]; simp [go_sem, cx]
      have fx' : (wr.setCell ⟨K4, 0, none⟩ (.int .u32 (readL m A (k + 1)))).drew.frozen? ⟨K4, 0, none⟩ = false := by
        rw [World.frozen?_drew]; simp [go_sem, fx]
      have kx' : But [K4] w.heap.size w (wr.setCell ⟨K4, 0, none⟩ (.int .u32 (readL m A (k + 1)))).drew := (kx.setCell (by simp) _).drew
      generalize (wr.setCell ⟨K4, 0, none⟩ (.int .u32 (readL m A (k + 1)))).drew = w2 at *
      clear cx fx kx hx hc
      go_wp2_with fail
      go_roundw
      case rel => exact ⟨k + 1, by omega, by go_num, hx', cx', fx', kx'⟩
      case measure => simp [intOf]; omega
    · obtain rfl : k = q := by omega
      go_wp2_with fail
      exact bodyPost_end (v := .tuple #[]) (by simp [results, Try.results62, go_sem]) rfl ⟨rfl, cx, kx⟩
set_option maxRecDepth 8000 in
theorem write1_no {B K0 K1 K2 K3 : Nat} {m : Mm} {w : World} (ok : m.ok) (A j : Nat) (hA : A ≤ 4294967295) (n v : Int) (b : Boxes w B K0 K1 K2 K3 m (.int .u32 A) (.int .i64 n) (.int .u32 v)) (hl : lackL m A 2 (numL n) = some j) :
    Calls Try.prog 58 #[cp K0, cp K1, cp K2, cp K3] w fun e w' => e = .panicked (fltP ((A + j) % 4294967296) 2) ∧ Below w.heap.size w w' := by
  have hn := num_bd n
  have hno := fun w (h : PAt w B m) => reached_no h ok A (numL n) j hA 2 (by omega) hn.2 hl
  have hnum := fun w => number_any n w
  generalize numL n = k at *
  clear hl hn
  have c0 := b.c0
  have c1 := b.c1
  have c2 := b.c2
  have hd : w.drew.cell? ⟨K0, 0, none⟩ = some (mp B) ∧ w.drew.cell? ⟨K1, 0, none⟩ = some (.int .u32 A) ∧ w.drew.cell? ⟨K2, 0, none⟩ = some (.int .i64 n) ∧ PAt w.drew B m := ⟨c0, c1, c2, b.h.drew⟩
  have kd : Below w.heap.size w w.drew := ⟨rfl, rfl, rfl, Nat.le_refl _, fun _ _ => rfl⟩
  go_enter Try.func58, Try.ntmps58
  go_wp2_with fail
  refine wp_region_held_drew (S := fun W => W.cell? ⟨K0, 0, none⟩ = some (mp B) ∧ W.cell? ⟨K1, 0, none⟩ = some (.int .u32 A) ∧ W.cell? ⟨K2, 0, none⟩ = some (.int .i64 n) ∧ PAt W B m) (by kernel_rfl) hd (fun hHeld => ?_)
  refine wpAnyH_take (i := 0) (v := mp B) rfl (by kernel_rfl) (by kernel_rfl) (by kernel_rfl) (fun _ _ _ h => h) (Or.inl ⟨by rfl, ?_⟩) hHeld ?_
  · intro W hS
    obtain ⟨s0, s1, s2, s4⟩ := hS
    go_simp
  simp only [Act.put, List.setIfInBounds_toArray, List.set_cons_zero, List.set_cons_succ]
  refine wpAnyH_take (i := 1) (v := .int .u32 A) rfl (by kernel_rfl) (by kernel_rfl) (by kernel_rfl) (fun _ _ _ h => h) (Or.inl ⟨by rfl, ?_⟩) hHeld ?_
  · intro W hS
    obtain ⟨s0, s1, s2, s4⟩ := hS
    go_simp
  simp only [Act.put, List.setIfInBounds_toArray, List.set_cons_zero, List.set_cons_succ]
  refine wpAnyH_take (i := 2) (v := .int .i64 n) rfl (by kernel_rfl) (by kernel_rfl) (by kernel_rfl) (fun _ _ _ h => h) (Or.inl ⟨by rfl, ?_⟩) hHeld ?_
  · intro W hS
    obtain ⟨s0, s1, s2, s4⟩ := hS
    go_simp
  simp only [Act.put, List.setIfInBounds_toArray, List.set_cons_zero, List.set_cons_succ]
  refine wpAnyH_ready (rs := [3]) (by kernel_rfl) (by simp) ?_
  refine AllReadyH.cons rfl (fun K hK => ?_) AllReadyH.nil
  go_simp
  go_at_call 60
  refine (hnum _).mono ?_
  rintro e w' ⟨rfl, rfl⟩
  refine hK.out _ _ hHeld (fun _ => ?_)
  clear hK K
  refine wpAnyH_ready (rs := [4]) (by kernel_rfl) (by simp) ?_
  refine AllReadyH.cons rfl (fun K hK => ?_) AllReadyH.nil
  go_simp
  go_at_call 59
  refine (hno _ hd.2.2.2).mono ?_
  rintro e w' ⟨rfl, rfl⟩
  exact ⟨rfl, rfl, kd⟩
def wroteS (m : Mm) (A : Nat) (n v : Int) : Mm := putB m A (bytesV v (numL n))
set_option maxRecDepth 8000 in
theorem write1_yes {B K0 K1 K2 K3 : Nat} {m : Mm} {w : World} (ok : m.ok) (A : Nat) (hA : A ≤ 4294967295) (n v : Int) (hv : 0 ≤ v ∧ v ≤ 4294967295) (b : Boxes w B K0 K1 K2 K3 m (.int .u32 A) (.int .i64 n) (.int .u32 v)) (hl : lackL m A 2 (numL n) = none) (hK : B ≠ K3) :
    Calls Try.prog 58 #[cp K0, cp K1, cp K2, cp K3] w fun e w' => e = .returned (.tuple #[]) ∧ PAt w' B (wroteS m A n v) ∧ But [B] w.heap.size w w' := by
  have hn := num_bd n
  have he := lack_end ok (a := A) (by omega) hn.2 hl hn.1
  have hyes := fun w (h : PAt w B m) => reached_yes h ok A (numL n) hA 2 (by omega) hn.1 hn.2 hl
  have hnum := fun w => number_any n w
  unfold wroteS
  generalize numL n = q at *
  clear hl
  have c0 := b.c0
  have c1 := b.c1
  have c2 := b.c2
  have c3 := b.c3
  have hd : w.drew.cell? ⟨K0, 0, none⟩ = some (mp B) ∧ w.drew.cell? ⟨K1, 0, none⟩ = some (.int .u32 A) ∧ w.drew.cell? ⟨K2, 0, none⟩ = some (.int .i64 n) ∧ PAt w.drew B m := ⟨c0, c1, c2, b.h.drew⟩
  have kd : But [B] w.heap.size w w.drew := (But.refl _ _ _).drew
  have c3d : w.drew.cell? ⟨K3, 0, none⟩ = some (.int .u32 v) := c3
  go_enter Try.func58, Try.ntmps58
  go_wp2_with fail
  go_region_held3 (fun W => W.cell? ⟨K0, 0, none⟩ = some (mp B) ∧ W.cell? ⟨K1, 0, none⟩ = some (.int .u32 A) ∧ W.cell? ⟨K2, 0, none⟩ = some (.int .i64 n) ∧ PAt W B m)
    (first | exact hd | assumption)
    (first | (go_at_call 60; refine (hnum _).mono ?_; rintro e w' ⟨rfl, rfl⟩) | (go_at_call 59; refine (hyes _ hd.2.2.2).mono ?_; rintro e w' ⟨rfl, rfl⟩))
  clear c0 c1 c2 c3
  have hB := hd.2.2.2
  clear hd b
  generalize w.drew = w1 at *
  go_wp2_with fail
  go_loopw [13] (fun ii W => ∃ k : Nat, k ≤ q ∧ ii = .int .i64 k ∧ PAt W B (putB m A (bytesV v k)) ∧ W.cell? ⟨K3, 0, none⟩ = some (.int .u32 v) ∧ But [B] w.heap.size w W) (fun ii _ => (q - intOf ii).toNat)
  case atStart => exact ⟨0, by omega, rfl, by rw [show bytesV v 0 = [] from rfl, putB_nil]; exact hB, c3d, kd⟩
  case round =>
    obtain ⟨k, hk, rfl, hx, cx, kx⟩ := hrel
    by_cases hlt : k < q
    · have hc := hx.b (A + k) (by omega)
      have hf := hx.fr (64 + A + k)
      rw [show 64 + (A + k) = 64 + A + k by omega] at hc
      have hx' : PAt (wr.setCell ⟨B, 64 + A + k, none⟩ (.int .u8 (v / 2 ^ (8 * k) % 256))) B (putB m A (bytesV v (k + 1))) := hx.set (64 + A + k) _ _ fun cs c => by
        rw [show 64 + A + k = 64 + (A + k) by omega]
        refine c.set_b (A + k) (by omega) _ _ rfl (fun j => ?_)
        rw [putB_snoc]
      have cx' : (wr.setCell ⟨B, 64 + A + k, none⟩ (.int .u8 (v / 2 ^ (8 * k) % 256))).cell? ⟨K3, 0, none⟩ = some (.int .u32 v) := by
        simp [go_sem, cx, hK, Ne.symm hK]
      have kx' := kx.setCell (p := ⟨B, 64 + A + k, none⟩) (by simp) (.int .u8 (v / 2 ^ (8 * k) % 256))
      go_wp2_with fail
      generalize (wr.setCell ⟨B, 64 + A + k, none⟩ (.int .u8 (v / 2 ^ (8 * k) % 256))) = w2 at *
      clear cx kx hx hc
      go_roundw
      case rel => exact ⟨k + 1, by omega, by go_num, hx', cx', kx'⟩
      case measure => simp [intOf]; omega
    · obtain rfl : k = q := by omega
      go_wp2_with fail
      exact bodyPost_end (v := .tuple #[]) (by simp [results, Try.results58, go_sem]) rfl ⟨rfl, hx, kx⟩
end Go.Proofs.Ytmlaancmacipoaa
