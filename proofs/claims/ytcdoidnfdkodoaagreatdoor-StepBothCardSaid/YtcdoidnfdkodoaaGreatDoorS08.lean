import Derived.Test.YtcdoidnfdkodoaaGreatDoorS07
import Derived.Deep.RegionHeld3
import Derived.Lib.Hide
import Derived.Test.YtcdoidnfdkodoaaGreatDoorS00
import Derived.Deep.CutRange
namespace Go.Proofs.YtcdoidnfdkodoaaGreatDoor
open Go.RowKit
set_option linter.unusedVariables false
set_option linter.unusedSimpArgs false
set_option linter.unusedSectionVars false
structure Gs where
  r : Nat → Int
  pc : Int
  f : Nat → Bool
  df : Bool
  x : Int
structure Gs.ok (g : Gs) : Prop where
  r : ∀ i, 0 ≤ g.r i ∧ g.r i ≤ 4294967295
  pc : 0 ≤ g.pc ∧ g.pc ≤ 4294967295
  x : 0 ≤ g.x ∧ g.x ≤ 18446744073709551615
abbrev stA (g : Gs) : Array Value := #[.int .u32 (g.r 0), .int .u32 (g.r 1), .int .u32 (g.r 2), .int .u32 (g.r 3), .int .u32 (g.r 4), .int .u32 (g.r 5), .int .u32 (g.r 6), .int .u32 (g.r 7), .int .u32 g.pc,
  .bool (g.f 0), .bool (g.f 1), .bool (g.f 2), .bool (g.f 3), .bool (g.f 4), .bool (g.f 5), .bool g.df, .int .u64 g.x]
abbrev stV (g : Gs) : Value := .agg (stA g)
abbrev z17 : Array Value := #[.int .u32 0, .int .u32 0, .int .u32 0, .int .u32 0, .int .u32 0, .int .u32 0, .int .u32 0, .int .u32 0, .int .u32 0, .bool false, .bool false, .bool false, .bool false, .bool false, .bool false, .bool false, .int .u64 0]
def setr (g : Gs) (j : Nat) (v : Int) : Gs := { g with r := fun k => if k = j then v else g.r k }
theorem szS : (Tryz.prog.info? 29).map (·.size) = some 17 := by kernel_rfl
theorem szO : (Tryz.prog.info? 31).map (·.size) = some 6 := by kernel_rfl
theorem szF : (Tryz.prog.info? 42).map (·.size) = some 4 := by kernel_rfl
theorem and7 (n : Int) : bits .and .i64 n 7 = n % 8 := by
  have h7 : (BitVec.ofInt 64 7).toNat = 2 ^ 3 - 1 := by decide
  have key : (BitVec.ofInt 64 n &&& BitVec.ofInt 64 7).toNat = (n % ((2 ^ 64 : Nat) : Int)).toNat % 2 ^ 3 := by
    rw [BitVec.toNat_and, BitVec.toNat_ofInt, h7, Nat.and_two_pow_sub_one_eq_mod]
  show IntKind.i64.wrap ((BitVec.ofInt 64 n &&& BitVec.ofInt 64 7).toNat : Nat) = n % 8
  rw [key, IntKind.wrap_i64]
  omega
theorem numbered_any (i : Int) (w : World) : Calls Tryz.prog 231 #[.int .i64 i] w fun e w' => e = .returned (.int .i64 (i % 8)) ∧ w = w' := by
  have h := and7 i
  go_enter Tryz.func231, Tryz.ntmps231
  go_wp2
  go_ret
  exact ⟨ret_int rfl, rfl⟩
def numO (n : Int) : Int := if n = 1 then 1 else 4
theorem onumber_any (n : Int) (w : World) : Calls Tryz.prog 228 #[.int .i64 n] w fun e w' => e = .returned (.int .i64 (numO n)) ∧ w = w' := by
  go_enter Tryz.func228, Tryz.ntmps228
  go_wp2
  all_goals (go_ret; refine ⟨ret_int ?_, rfl⟩; first | (simp_all [numO]; done) | (simp_all [numO]; omega))
def regV (g : Gs) (i : Int) : Int := if i = -1 then 0 else g.r (i % 8).toNat
theorem st_at (g : Gs) {j : Nat} (h : j < 8) : (stA g)[j]? = some (.int .u32 (g.r j)) := by
  rcases (by omega : j = 0 ∨ j = 1 ∨ j = 2 ∨ j = 3 ∨ j = 4 ∨ j = 5 ∨ j = 6 ∨ j = 7) with rfl | rfl | rfl | rfl | rfl | rfl | rfl | rfl <;> rfl
theorem register_any (g : Gs) (i : Int) (w : World) : Calls Tryz.prog 198 #[stV g, .int .i64 i] w fun e w' => e = .returned (.int .u32 (regV g i)) ∧ Below w.heap.size w w' := by
  have b0 := (Below.refl w.heap.size w).alloc (Nat.le_refl _) (.cells (stA g) 29)
  have kS := Blk.new w 29 (stA g)
  unfold regV
  by_cases h : i = -1
  · subst h
    go_enter Tryz.func198, Tryz.ntmps198
    go_wp2
    go_ret
    exact ⟨rfl, b0⟩
  · rw [if_neg h]
    have h1 : (i == -1) = false := by simp [h]
    have hn := Lib.hid (fun W => numbered_any i W)
    obtain ⟨j, hj⟩ := Int.eq_ofNat_of_zero_le (show 0 ≤ i % 8 by omega)
    have hj8 : j < 8 := by omega
    rw [hj] at hn
    rw [hj, Int.toNat_natCast]
    clear hj h
    have cj := kS.cell (st_at g hj8)
    have l0 : ((j : Int) < 0) = False := eq_false (by omega)
    have l8 : ((j : Int) < 8) = True := eq_true (by omega)
    generalize g.r j = x at *
    go_enter Tryz.func198, Tryz.ntmps198
    go_wp2_with ((with_reducible refine (hn.out _).mono ?_); rintro e w1 ⟨rfl, rfl⟩)
    go_ret
    exact ⟨rfl, b0⟩
def plO (g : Gs) (o : On) : Int := if o.k = 3 then ((regV g o.b + regV g o.x * o.s % 4294967296) % 4294967296 + o.m) % 4294967296 else 0
theorem plO_bd (g : Gs) (o : On) : 0 ≤ plO g o ∧ plO g o ≤ 4294967295 := by unfold plO; split <;> omega
end Go.Proofs.YtcdoidnfdkodoaaGreatDoor
namespace Go.Proofs.YtcdoidnfdkodoaaGreatDoor
open Go.RowKit
set_option linter.unusedVariables false
set_option linter.unusedSimpArgs false
set_option linter.unusedSectionVars false
theorem stO (w : World) (g : Gs) (o : On) : Blk ((w.alloc (.cells (stA g) 29)).alloc (.cells (op6 o) 31)) w.heap.size 29 (stA g) ∧ Blk ((w.alloc (.cells (stA g) 29)).alloc (.cells (op6 o) 31)) (w.heap.size + 1) 31 (op6 o) ∧ Below w.heap.size w ((w.alloc (.cells (stA g) 29)).alloc (.cells (op6 o) 31)) := by
  refine ⟨(Blk.new w 29 (stA g)).alloc _, ?_, ((Below.refl w.heap.size w).alloc (Nat.le_refl _) _).alloc (by simp) _⟩
  have := Blk.new (w.alloc (.cells (stA g) 29)) 31 (op6 o)
  rwa [World.size_alloc] at this
set_option maxRecDepth 20000 in
theorem Place_any (g : Gs) (o : On) (w : World) : Calls Tryz.prog 156 #[stV g, opV o] w fun e w' => e = .returned (.int .u32 (plO g o)) ∧ Below w.heap.size w w' := by
  obtain ⟨kS, kO, b0⟩ := stO w g o
  have c0 := kO.cell (i := 0) (v := .int .i64 o.k) rfl
  unfold plO
  by_cases h : o.k = 3
  · rw [if_pos h]
    have h3 : (o.k != 3) = false := by simp [h]
    clear h
    have hB := Lib.hid (fun W => register_any g o.b W)
    have hX := Lib.hid (fun W => register_any g o.x W)
    generalize regV g o.b = rb at *
    generalize regV g o.x = rx at *
    go_enter Tryz.func156, Tryz.ntmps156
    go_upto_region 3 with fail
    generalize (w.alloc (.cells (stA g) 29)).alloc (.cells (op6 o) 31) = W at *
    clear c0
    have bd := b0.trans ((Below.refl W.heap.size W).drew.mono b0.size)
    refine wp_region_held_drew (S := fun V => Blk V w.heap.size 29 (stA g) ∧ Blk V (w.heap.size + 1) 31 (op6 o)) (by kernel_rfl) ⟨kS.drew, kO.drew⟩ (fun hH => ?_)
    generalize W.drew = W1 at *
    refine wpAnyH_take (i := 0) (v := stV g) rfl (by kernel_rfl) (by kernel_rfl) (by kernel_rfl) (fun _ _ _ h => h) (Or.inl ⟨by kernel_rfl, ?_⟩) hH ?_
    · intro W hS
      exact run_load_row (by rfl) (by rfl) 29 _ (0, 0) _ hS.1.h Tryz.underlying29 rfl szS
    simp only [Act.put, List.setIfInBounds_toArray, List.set_cons_zero, List.set_cons_succ]
    refine wpAnyH_take (i := 1) (v := ?_) rfl (by kernel_rfl) (by kernel_rfl) (by kernel_rfl) (fun _ _ _ h => h) (Or.inl ⟨by kernel_rfl, ?_⟩) hH ?_
    rotate_left
    · intro W hS
      go_simp
      try rfl
    simp only [Act.put, List.setIfInBounds_toArray, List.set_cons_zero, List.set_cons_succ, List.getElem_toArray, List.getElem_cons_succ, List.getElem_cons_zero]
    refine wpAnyH_take (i := 2) (v := ?_) rfl (by kernel_rfl) (by kernel_rfl) (by kernel_rfl) (fun _ _ _ h => h) (Or.inl ⟨by kernel_rfl, ?_⟩) hH ?_
    rotate_left
    · intro W hS
      have cx := hS.2.cell (i := 3) (v := .int .i64 o.b) rfl
      go_simp
      try rfl
    simp only [Act.put, List.setIfInBounds_toArray, List.set_cons_zero, List.set_cons_succ, List.getElem_toArray, List.getElem_cons_succ, List.getElem_cons_zero]
    refine wpAnyH_take (i := 4) (v := stV g) rfl (by kernel_rfl) (by kernel_rfl) (by kernel_rfl) (fun _ _ _ h => h) (Or.inl ⟨by kernel_rfl, ?_⟩) hH ?_
    · intro W hS
      exact run_load_row (by rfl) (by rfl) 29 _ (0, 0) _ hS.1.h Tryz.underlying29 rfl szS
    simp only [Act.put, List.setIfInBounds_toArray, List.set_cons_zero, List.set_cons_succ]
    refine wpAnyH_take (i := 5) (v := ?_) rfl (by kernel_rfl) (by kernel_rfl) (by kernel_rfl) (fun _ _ _ h => h) (Or.inl ⟨by kernel_rfl, ?_⟩) hH ?_
    rotate_left
    · intro W hS
      go_simp
      try rfl
    simp only [Act.put, List.setIfInBounds_toArray, List.set_cons_zero, List.set_cons_succ, List.getElem_toArray, List.getElem_cons_succ, List.getElem_cons_zero]
    refine wpAnyH_take (i := 6) (v := ?_) rfl (by kernel_rfl) (by kernel_rfl) (by kernel_rfl) (fun _ _ _ h => h) (Or.inl ⟨by kernel_rfl, ?_⟩) hH ?_
    rotate_left
    · intro W hS
      have cx := hS.2.cell (i := 4) (v := .int .i64 o.x) rfl
      go_simp
      try rfl
    simp only [Act.put, List.setIfInBounds_toArray, List.set_cons_zero, List.set_cons_succ, List.getElem_toArray, List.getElem_cons_succ, List.getElem_cons_zero]
    refine wpAnyH_take (i := 8) (v := ?_) rfl (by kernel_rfl) (by kernel_rfl) (by kernel_rfl) (fun _ _ _ h => h) (Or.inl ⟨by kernel_rfl, ?_⟩) hH ?_
    rotate_left
    · intro W hS
      go_simp
      try rfl
    simp only [Act.put, List.setIfInBounds_toArray, List.set_cons_zero, List.set_cons_succ, List.getElem_toArray, List.getElem_cons_succ, List.getElem_cons_zero]
    refine wpAnyH_take (i := 9) (v := ?_) rfl (by kernel_rfl) (by kernel_rfl) (by kernel_rfl) (fun _ _ _ h => h) (Or.inl ⟨by kernel_rfl, ?_⟩) hH ?_
    rotate_left
    · intro W hS
      have cx := hS.2.cell (i := 5) (v := .int .u32 o.s) rfl
      go_simp
      try rfl
    simp only [Act.put, List.setIfInBounds_toArray, List.set_cons_zero, List.set_cons_succ, List.getElem_toArray, List.getElem_cons_succ, List.getElem_cons_zero]
    refine wpAnyH_take (i := 12) (v := ?_) rfl (by kernel_rfl) (by kernel_rfl) (by kernel_rfl) (fun _ _ _ h => h) (Or.inl ⟨by kernel_rfl, ?_⟩) hH ?_
    rotate_left
    · intro W hS
      go_simp
      try rfl
    simp only [Act.put, List.setIfInBounds_toArray, List.set_cons_zero, List.set_cons_succ, List.getElem_toArray, List.getElem_cons_succ, List.getElem_cons_zero]
    refine wpAnyH_take (i := 13) (v := ?_) rfl (by kernel_rfl) (by kernel_rfl) (by kernel_rfl) (fun _ _ _ h => h) (Or.inl ⟨by kernel_rfl, ?_⟩) hH ?_
    rotate_left
    · intro W hS
      have cx := hS.2.cell (i := 2) (v := .int .u32 o.m) rfl
      go_simp
      try rfl
    simp only [Act.put, List.setIfInBounds_toArray, List.set_cons_zero, List.set_cons_succ, List.getElem_toArray, List.getElem_cons_succ, List.getElem_cons_zero]
    refine wpAnyH_ready (rs := [3]) (by kernel_rfl) (by simp) ?_
    refine AllReadyH.cons rfl (fun K hK => ?_) AllReadyH.nil
    go_simp
    with_reducible refine (hB.out _).mono ?_
    rintro e w2 ⟨rfl, b2⟩
    have hH2 := And.intro (hH.1.below b2 hH.1.lt) (hH.2.below b2 hH.2.lt)
    refine hK.out _ _ hH2 (fun _ => ?_)
    clear hK K
    try simp only [Act.put, List.setIfInBounds_toArray, List.set_cons_zero, List.set_cons_succ]
    refine wpAnyH_ready (rs := [7]) (by kernel_rfl) (by simp) ?_
    refine AllReadyH.cons rfl (fun K hK => ?_) AllReadyH.nil
    go_simp
    with_reducible refine (hX.out _).mono ?_
    rintro e w3 ⟨rfl, b3⟩
    have hH3 := And.intro (hH2.1.below b3 hH2.1.lt) (hH2.2.below b3 hH2.2.lt)
    refine hK.out _ _ hH3 (fun _ => ?_)
    clear hK K
    try simp only [Act.put, List.setIfInBounds_toArray, List.set_cons_zero, List.set_cons_succ]
    refine wpAnyH_take (i := 10) (v := ?_) rfl (by kernel_rfl) (by kernel_rfl) (by kernel_rfl) (fun _ _ _ h => h) (Or.inl ⟨by kernel_rfl, ?_⟩) hH3 ?_
    rotate_left
    · intro W hS
      go_simp
      try rfl
    simp only [Act.put, List.setIfInBounds_toArray, List.set_cons_zero, List.set_cons_succ, List.getElem_toArray, List.getElem_cons_succ, List.getElem_cons_zero]
    refine wpAnyH_take (i := 11) (v := ?_) rfl (by kernel_rfl) (by kernel_rfl) (by kernel_rfl) (fun _ _ _ h => h) (Or.inl ⟨by kernel_rfl, ?_⟩) hH3 ?_
    rotate_left
    · intro W hS
      go_simp
      try rfl
    simp only [Act.put, List.setIfInBounds_toArray, List.set_cons_zero, List.set_cons_succ, List.getElem_toArray, List.getElem_cons_succ, List.getElem_cons_zero]
    refine wpAnyH_take (i := 14) (v := ?_) rfl (by kernel_rfl) (by kernel_rfl) (by kernel_rfl) (fun _ _ _ h => h) (Or.inl ⟨by kernel_rfl, ?_⟩) hH3 ?_
    rotate_left
    · intro W hS
      go_simp
      try rfl
    simp only [Act.put, List.setIfInBounds_toArray, List.set_cons_zero, List.set_cons_succ, List.getElem_toArray, List.getElem_cons_succ, List.getElem_cons_zero]
    refine wpAnyH_take (i := 15) (v := ?_) rfl (by kernel_rfl) (by kernel_rfl) (by kernel_rfl) (fun _ _ _ h => h) (Or.inl ⟨by kernel_rfl, ?_⟩) hH3 ?_
    rotate_left
    · intro W hS
      go_simp
      try rfl
    simp only [Act.put, List.setIfInBounds_toArray, List.set_cons_zero, List.set_cons_succ, List.getElem_toArray, List.getElem_cons_succ, List.getElem_cons_zero]
    refine wpAnyH_done (by kernel_rfl) ?_ _
    go_wp2_with fail
    go_ret
    exact ⟨rfl, bd.trans ((b2.trans (b3.mono b2.size)).mono bd.size)⟩
  · rw [if_neg h]
    have h3 : (o.k != 3) = true := by simp [h]
    go_enter Tryz.func156, Tryz.ntmps156
    go_wp2_with fail
    go_ret
    exact ⟨rfl, b0⟩
set_option maxRecDepth 20000 in
theorem load_yes {B : Nat} {m : Mm} {w : World} (h : PAt w B m) (ok : m.ok) (A : Nat) (hA : A ≤ 4294967295) (n : Int) (hl : lackL m A 1 (numL n) = none) :
    Calls Tryz.prog 245 #[mp B, .int .u32 A, .int .i64 n] w fun e w' => e = .returned (.int .u32 (readL m A (numL n))) ∧ Below w.heap.size w w' := by
  have hR := Lib.hid (Read_yes h ok A hA n 1 hl)
  clear hl
  generalize readL m A (numL n) = v at *
  go_enter Tryz.func245, Tryz.ntmps245
  go_wp2_with ((with_reducible refine hR.out.mono ?_); rintro e w1 ⟨rfl, b1⟩; have b2 := b1.alloc b1.size (.cells #[.int .i64 0, .int .u32 0, .int .u32 0, .int .i64 0] 42))
  go_ret
  exact ⟨rfl, b2⟩
set_option maxRecDepth 20000 in
theorem store_yes {B : Nat} {m : Mm} {w : World} (h : PAt w B m) (ok : m.ok) (A : Nat) (hA : A ≤ 4294967295) (n v : Int) (hv : 0 ≤ v ∧ v ≤ 4294967295) (hl : lackL m A 2 (numL n) = none) :
    Calls Tryz.prog 214 #[mp B, .int .u32 A, .int .i64 n, .int .u32 v] w fun e w' => e = .returned (.tuple #[]) ∧ PAt w' B (wroteS m A n v) ∧ But [B] w.heap.size w w' := by
  have hR := Lib.hid (Write_yes h ok A hA n v hv hl)
  clear hl
  go_enter Tryz.func214, Tryz.ntmps214
  go_wp2_with ((with_reducible refine hR.out.mono ?_); rintro e w1 ⟨rfl, p1, b1⟩; have p2 := p1.alloc (.cells #[.int .i64 0, .int .u32 0, .int .u32 0, .int .i64 0] 42); have b2 := b1.alloc b1.size (.cells #[.int .i64 0, .int .u32 0, .int .u32 0, .int .i64 0] 42))
  exact bodyPost_end (v := .tuple #[]) (by simp [results, Tryz.results214, go_sem]) rfl ⟨rfl, p2, b2⟩
set_option maxRecDepth 20000 in
theorem store_no {B : Nat} {m : Mm} {w : World} (h : PAt w B m) (ok : m.ok) (A j : Nat) (hA : A ≤ 4294967295) (n v : Int) (hl : lackL m A 2 (numL n) = some j) :
    Calls Tryz.prog 214 #[mp B, .int .u32 A, .int .i64 n, .int .u32 v] w fun e w' => e = .panicked (fltP ((A + j) % 4294967296) 2) ∧ Below w.heap.size w w' := by
  have hR := Lib.hid (Write_no h ok A j hA n v hl)
  clear hl
  generalize ((A : Int) + j) % 4294967296 = a at *
  go_enter Tryz.func214, Tryz.ntmps214
  go_wp2_with ((with_reducible refine hR.out.mono ?_); rintro e w1 ⟨rfl, b1⟩; have b2 := b1.alloc b1.size (.cells #[.int .i64 1, .int .u32 0, .int .u32 a, .int .i64 2] 42); obtain ⟨d0, d1, d2, d3, -⟩ := Four.begun w1 1 0 a 2 42)
  exact ⟨rfl, rfl, b2⟩
end Go.Proofs.YtcdoidnfdkodoaaGreatDoor
