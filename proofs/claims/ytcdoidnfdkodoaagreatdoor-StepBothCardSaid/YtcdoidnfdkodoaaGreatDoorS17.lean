import Derived.Test.YtcdoidnfdkodoaaGreatDoorS16
import Derived.Test.YtcdoidnfdkodoaaGreatDoorS12
import Derived.Deep.RegionHeld
import Derived.Deep.RegionHeld3
namespace Go.Proofs.YtcdoidnfdkodoaaGreatDoor
open Go.RowKit
set_option linter.unusedVariables false
set_option linter.unusedSimpArgs false
set_option linter.unusedSectionVars false
theorem lowest3_any (x : Int) (h : 0 ≤ x ∧ x ≤ 4294967295) (w : World) : Calls Tryz.prog 269 #[.int .u32 x] w fun e w' => e = .returned (.int .i64 (x % 8)) ∧ w = w' := by
  have hf := field_any x 0 3 h (by decide)
  rw [show fieldS x 0 3 = x % 8 from field_low x 3 (by decide)] at hf
  go_enter Tryz.func269, Tryz.ntmps269
  go_wp2_with (first | (go_at_call 251; refine (hf _).mono ?_; rintro e w' ⟨rfl, rfl⟩))
  go_ret
  exact ⟨rfl, rfl⟩
theorem middle_any (x : Int) (h : 0 ≤ x ∧ x ≤ 4294967295) (w : World) : Calls Tryz.prog 266 #[.int .u32 x] w fun e w' => e = .returned (.int .i64 (x / 8 % 8)) ∧ w = w' := by
  have hf := field_any x 3 3 h (by decide)
  rw [show fieldS x 3 3 = x / 8 % 8 from field_at x 3 3 (by decide) (by decide)] at hf
  go_enter Tryz.func266, Tryz.ntmps266
  go_wp2_with (first | (go_at_call 251; refine (hf _).mono ?_; rintro e w' ⟨rfl, rfl⟩))
  go_ret
  exact ⟨rfl, rfl⟩
theorem highest_any (x : Int) (h : 0 ≤ x ∧ x ≤ 4294967295) (w : World) : Calls Tryz.prog 273 #[.int .u32 x] w fun e w' => e = .returned (.int .i64 (x / 64 % 4)) ∧ w = w' := by
  have hf := field_any x 6 2 h (by decide)
  rw [show fieldS x 6 2 = x / 64 % 4 from field_at x 6 2 (by decide) (by decide)] at hf
  go_enter Tryz.func273, Tryz.ntmps273
  go_wp2_with (first | (go_at_call 251; refine (hf _).mono ?_; rintro e w' ⟨rfl, rfl⟩))
  go_ret
  exact ⟨rfl, rfl⟩
theorem register_anyD (r : Int) (w : World) : Calls Tryz.prog 267 #[.int .i64 r] w fun e w' => e = .returned (opV (onReg r)) ∧ Below w.heap.size w w' := by
  have kx := (Below.refl w.heap.size w).alloc (Nat.le_refl _) (.cells (op6 (onReg r)) 31)
  go_enter Tryz.func267, Tryz.ntmps267
  go_wp2
  exact bodyPost_ret (v := opV (onReg r)) (by simp [results, Tryz.results267, go_sem, onReg]) rfl ⟨rfl, kx⟩
theorem number_anyD (n : Int) (w : World) : Calls Tryz.prog 268 #[.int .u32 n] w fun e w' => e = .returned (opV (onImm n)) ∧ Below w.heap.size w w' := by
  have kx := (Below.refl w.heap.size w).alloc (Nat.le_refl _) (.cells (op6 (onImm n)) 31)
  go_enter Tryz.func268, Tryz.ntmps268
  go_wp2
  exact bodyPost_ret (v := opV (onImm n)) (by simp [results, Tryz.results268, go_sem, onImm]) rfl ⟨rfl, kx⟩
def RowN (W : World) (N : Nat) (a : Option Addr) (len : Nat) (zs : List Int) : Prop :=
  zs.length = len ∧ (∀ z ∈ zs, 0 ≤ z ∧ z ≤ 255) ∧ (zs = [] ∨ ∃ b off, a = some ⟨b, off, none⟩ ∧ b < N ∧ ∀ i, i < len → W.cell? ⟨b, off + i, none⟩ = some (.int .u8 (zs.getD i 0)))
theorem RowN.but {W W' : World} {N : Nat} {a : Option Addr} {len : Nat} {zs : List Int} {S : List Nat} {n : Nat} (h : RowN W N a len zs) (b : But S n W W') (hN : N ≤ n) (hS : ∀ k, k ∈ S → N ≤ k) : RowN W' N a len zs := by
  obtain ⟨h1, h2, h3⟩ := h
  refine ⟨h1, h2, ?_⟩
  rcases h3 with h3 | ⟨B, off, ha, hlt, hc⟩
  · exact .inl h3
  · refine .inr ⟨B, off, ha, hlt, fun i hi => ?_⟩
    have hb := b.block B (by omega) (fun hm => by have := hS B hm; omega)
    have := hc i hi
    simp only [World.cell?, hb] at this ⊢
    exact this
structure Rd (W : World) (N B : Nat) (a : Option Addr) (len cap : Nat) (zs : List Int) (p : Nat) (c m : Int) : Prop where
  blk : Blk W B 202 #[.slice a len cap, .int .i64 p, .int .u32 c, .int .u32 m]
  row : RowN W N a len zs
  nb : N ≤ B
  lc : len ≤ cap
  cm : cap ≤ 9223372036854775807
  pl : p ≤ len
  mb : 0 ≤ m ∧ m ≤ 4294967295
  cb : 0 ≤ c ∧ c ≤ 4294967295
abbrev rp (B : Nat) : Value := .pointer (some ⟨B, 0, none⟩)
abbrev errP (n : Int) : List PanicEntry := [{ v := .iface 57 (.int .i64 n), recovered := false }]
section
variable {W W' : World} {N B : Nat} {a : Option Addr} {len cap : Nat} {zs : List Int} {p : Nat} {c m : Int}
theorem Rd.lt (h : Rd W N B a len cap zs p c m) : B < W.heap.size := h.blk.lt
theorem Rd.c0 (h : Rd W N B a len cap zs p c m) : W.cell? ⟨B, 0, none⟩ = some (.slice a len cap) := h.blk.cell rfl
theorem Rd.c1 (h : Rd W N B a len cap zs p c m) : W.cell? ⟨B, 1, none⟩ = some (.int .i64 p) := h.blk.cell rfl
theorem Rd.c2 (h : Rd W N B a len cap zs p c m) : W.cell? ⟨B, 2, none⟩ = some (.int .u32 c) := h.blk.cell rfl
theorem Rd.c3 (h : Rd W N B a len cap zs p c m) : W.cell? ⟨B, 3, none⟩ = some (.int .u32 m) := h.blk.cell rfl
theorem Rd.but {S : List Nat} {n : Nat} (h : Rd W N B a len cap zs p c m) (b : But S n W W') (hB : B < n) (hS : B ∉ S) (hN : ∀ k, k ∈ S → N ≤ k) : Rd W' N B a len cap zs p c m :=
  ⟨h.blk.but b hB hS, h.row.but b (by have := h.nb; omega) hN, h.nb, h.lc, h.cm, h.pl, h.mb, h.cb⟩
theorem Rd.below {n : Nat} (h : Rd W N B a len cap zs p c m) (b : Below n W W') (hB : B < n) : Rd W' N B a len cap zs p c m :=
  h.but (But.of b []) hB (by simp) (by simp)
theorem Rd.len_eq (h : Rd W N B a len cap zs p c m) : zs.length = len := h.row.1
theorem Rd.set1 (h : Rd W N B a len cap zs p c m) (q : Nat) (hq : q ≤ len) : Rd (W.setCell ⟨B, 1, none⟩ (.int .i64 q)) N B a len cap zs q c m :=
  ⟨h.blk.set 1 (.int .i64 q), h.row.but ((But.refl [B] B W).setCell (p := ⟨B, 1, none⟩) (by simp) _) h.nb (by simpa using h.nb), h.nb, h.lc, h.cm, hq, h.mb, h.cb⟩
theorem Rd.set2 (h : Rd W N B a len cap zs p c m) (d : Int) (hd : 0 ≤ d ∧ d ≤ 4294967295) : Rd (W.setCell ⟨B, 2, none⟩ (.int .u32 d)) N B a len cap zs p d m :=
  ⟨h.blk.set 2 (.int .u32 d), h.row.but ((But.refl [B] B W).setCell (p := ⟨B, 2, none⟩) (by simp) _) h.nb (by simpa using h.nb), h.nb, h.lc, h.cm, h.pl, h.mb, hd⟩
theorem Rd.set3 (h : Rd W N B a len cap zs p c m) (d : Int) (hd : 0 ≤ d ∧ d ≤ 4294967295) : Rd (W.setCell ⟨B, 3, none⟩ (.int .u32 d)) N B a len cap zs p c d :=
  ⟨h.blk.set 3 (.int .u32 d), h.row.but ((But.refl [B] B W).setCell (p := ⟨B, 3, none⟩) (by simp) _) h.nb (by simpa using h.nb), h.nb, h.lc, h.cm, h.pl, hd, h.cb⟩
theorem Rd.other (h : Rd W N B a len cap zs p c m) {K i : Nat} {v : Value} (hK : N ≤ K) (hne : B ≠ K) : Rd (W.setCell ⟨K, i, none⟩ v) N B a len cap zs p c m :=
  ⟨h.blk.other i v hne, h.row.but ((But.refl [K] N W).setCell (p := ⟨K, i, none⟩) (by simp) _) (Nat.le_refl _) (by simpa using hK), h.nb, h.lc, h.cm, h.pl, h.mb, h.cb⟩
theorem Rd.drew (h : Rd W N B a len cap zs p c m) : Rd W.drew N B a len cap zs p c m := ⟨h.blk.drew, h.row, h.nb, h.lc, h.cm, h.pl, h.mb, h.cb⟩
theorem Rd.alloc (h : Rd W N B a len cap zs p c m) (o : Obj) : Rd (W.alloc o) N B a len cap zs p c m := h.below ((Below.refl _ _).alloc (Nat.le_refl _) o) h.lt
end
theorem cut_bytes (b off len cap p n : Nat) (h0 : 0 < n) (h : p + n ≤ len) (hc : len ≤ cap) (W : World) : (Instr.slice 66 (.slice (some ⟨b, off, none⟩) len cap) (some (.int .i64 (p : Int))) (some (.int .i64 ((p : Int) + n))) none).run Tryz.prog W = .ok (.slice (some ⟨b, off + p, none⟩) n (cap - p)) W := by
  have e1 : ¬ ((p : Int) + n < 0) := by omega
  have e2 : ((p : Int) + n).toNat = p + n := by omega
  have e3 : ¬ cap < p + n := by omega
  have e4 : ¬ p + n < p := by omega
  have e5 : 0 ≤ (p : Int) + n ∧ (p : Int) + n ≤ cap := by omega
  have e6 : ¬ cap = p := by omega
  have e7 : p ≤ p + n := by omega
  simp [Instr.slice, go_sem, e5, e2, e6]
set_option maxRecDepth 8000 in
theorem next_no {w : World} {N B : Nat} {a : Option Addr} {len cap : Nat} {zs : List Int} {p : Nat} {c m : Int} (R : Rd w N B a len cap zs p c m) (n : Nat) (hn : n = 1 ∨ n = 4) (h : ¬ p + n ≤ zs.length) :
    Calls Tryz.prog 247 #[rp B, .int .i64 n] w fun e w' => e = .panicked (errP 10) ∧ Below w.heap.size w w' := by
  have c0 := R.c0
  have c1 := R.c1
  have hl := R.len_eq
  have hm := R.cm
  have hlc := R.lc
  have hpl := R.pl
  have hnn : n ≤ 4 := by omega
  have hlt : (len : Int) - p < n := by omega
  have kd : Below w.heap.size w w.drew := ⟨rfl, rfl, rfl, Nat.le_refl _, fun _ _ => rfl⟩
  go_enter Tryz.func247, Tryz.ntmps247
  go_wp2
  go_region
  go_wp2
  exact ⟨rfl, rfl, kd⟩
set_option maxRecDepth 8000 in
theorem next_yes {w : World} {N B : Nat} {a : Option Addr} {len cap : Nat} {zs : List Int} {p : Nat} {c m : Int} (R : Rd w N B a len cap zs p c m) (n : Nat) (hn : n = 1 ∨ n = 4) (h : p + n ≤ zs.length) :
    Calls Tryz.prog 247 #[rp B, .int .i64 n] w fun e w' => e = .returned (.int .u32 (num zs p n)) ∧ Rd w' N B a len cap zs (p + n) c m ∧ But [B] w.heap.size w w' := by
  have c0 := R.c0
  have c1 := R.c1
  have hl := R.len_eq
  have hm := R.cm
  have hlc := R.lc
  have hpl := R.pl
  have hnn : n ≤ 4 := by omega
  have h0 : 0 < n := by omega
  have hlt : ¬ (len : Int) - p < n := by omega
  have hf := R.blk.fr 1
  obtain ⟨hz1, hz2, hz3⟩ := R.row
  rcases hz3 with rfl | ⟨b, off, rfl, hbN, hcell⟩
  · simp at h; omega
  have hcut := cut_bytes b off len cap p n h0 (by omega) hlc
  have hwt := word_take zs p n hn h
  have kR : ∀ W, RowN W N (some ⟨b, off, none⟩) len zs → Rd W N B (some ⟨b, off, none⟩) len cap zs (p + n) c m → Row8 W (some ⟨b, off + p, none⟩) n ((zs.drop p).take n) := by
    intro W hW hR
    obtain ⟨-, -, hz4⟩ := hW
    have hlt := hR.lt
    have hnb := hR.nb
    refine ⟨by simp; omega, fun z hz => hz2 z (List.mem_of_mem_drop (List.mem_of_mem_take hz)), .inr ⟨b, off + p, rfl, by omega, fun i hi => ?_⟩⟩
    rcases hz4 with rfl | ⟨b', off', h1, -, h3⟩
    · simp at h; omega
    · obtain ⟨rfl, rfl⟩ : b' = b ∧ off' = off := by simpa using h1.symm
      have := h3 (p + i) (by omega)
      rw [← Nat.add_assoc] at this
      rw [this]
      simp [List.getD_eq_getElem?_getD, List.getElem?_take, hi, List.getElem?_drop]
  have R1 := (R.set1 (p + n) (by omega)).drew
  have kb : But [B] w.heap.size w ((w.setCell ⟨B, 1, none⟩ (.int .i64 ((p + n : Nat) : Int))).drew) := ((But.refl _ _ _).setCell (by simp) _).drew
  rw [Int.natCast_add] at R1 kb
  have hW : ∀ W, Rd W N B (some ⟨b, off, none⟩) len cap zs (p + n) c m → Calls Tryz.prog 257 #[.slice (some ⟨b, off + p, none⟩) n (cap - p)] W fun e w' => e = .returned (.int .u32 (num zs p n)) ∧ Below W.heap.size W w' := fun W hR => by
    have := word_any (some ⟨b, off + p, none⟩) n (cap - p) _ W (kR W (hR.row) hR)
    rw [hwt] at this
    exact this
  replace hW := Lib.hid hW
  have hwp : IntKind.i64.wrap (p : Int) = p := by rw [IntKind.wrap_i64]; omega
  clear kR hcell hz2
  go_enter Tryz.func247, Tryz.ntmps247
  go_wp2
  go_region
  go_wp2
  have hsz : (w.setCell ⟨B, 1, none⟩ (.int .i64 ((p : Int) + n))).drew.heap.size = w.heap.size := by simp [World.drew, World.setCell]
  generalize (w.setCell ⟨B, 1, none⟩ (.int .i64 ((p : Int) + n))).drew = w1 at *
  refine wp_region_held_drew (S := fun W => Rd W N B (some ⟨b, off, none⟩) len cap zs (p + n) c m) (by kernel_rfl) R1.drew (fun hHeld => ?_)
  refine wpAnyH_take (i := 0) (v := ?_) rfl (by kernel_rfl) (by kernel_rfl) (by kernel_rfl) (fun _ _ _ h => h) (Or.inl ⟨by kernel_rfl, ?_⟩) hHeld ?_
  rotate_left
  · intro W hS
    go_simp
    try rfl
  simp only [Act.put, List.setIfInBounds_toArray, List.set_cons_zero, List.set_cons_succ, List.getElem_toArray, List.getElem_cons_succ, List.getElem_cons_zero]
  refine wpAnyH_take (i := 1) (v := ?_) rfl (by kernel_rfl) (by kernel_rfl) (by kernel_rfl) (fun _ _ _ h => h) (Or.inl ⟨by kernel_rfl, ?_⟩) hHeld ?_
  rotate_left
  · intro W hS
    go_simp
    try rfl
  simp only [Act.put, List.setIfInBounds_toArray, List.set_cons_zero, List.set_cons_succ, List.getElem_toArray, List.getElem_cons_succ, List.getElem_cons_zero]
  refine wpAnyH_take (i := 2) (v := ?_) rfl (by kernel_rfl) (by kernel_rfl) (by kernel_rfl) (fun _ _ _ h => h) (Or.inl ⟨by kernel_rfl, ?_⟩) hHeld ?_
  rotate_left
  · intro W hS
    go_simp
    try rfl
  simp only [Act.put, List.setIfInBounds_toArray, List.set_cons_zero, List.set_cons_succ, List.getElem_toArray, List.getElem_cons_succ, List.getElem_cons_zero]
  refine wpAnyH_take (i := 3) (v := ?_) rfl (by kernel_rfl) (by kernel_rfl) (by kernel_rfl) (fun _ _ _ h => h) (Or.inl ⟨by kernel_rfl, ?_⟩) hHeld ?_
  rotate_left
  · intro W hS
    have c0 := hS.c0
    go_simp
    try rfl
  simp only [Act.put, List.setIfInBounds_toArray, List.set_cons_zero, List.set_cons_succ, List.getElem_toArray, List.getElem_cons_succ, List.getElem_cons_zero]
  refine wpAnyH_take (i := 4) (v := ?_) rfl (by kernel_rfl) (by kernel_rfl) (by kernel_rfl) (fun _ _ _ h => h) (Or.inl ⟨by kernel_rfl, ?_⟩) hHeld ?_
  rotate_left
  · intro W hS
    go_simp
    try rfl
  simp only [Act.put, List.setIfInBounds_toArray, List.set_cons_zero, List.set_cons_succ, List.getElem_toArray, List.getElem_cons_succ, List.getElem_cons_zero]
  refine wpAnyH_take (i := 5) (v := ?_) rfl (by kernel_rfl) (by kernel_rfl) (by kernel_rfl) (fun _ _ _ h => h) (Or.inl ⟨by kernel_rfl, ?_⟩) hHeld ?_
  rotate_left
  · intro W hS
    go_simp
    try rfl
  simp only [Act.put, List.setIfInBounds_toArray, List.set_cons_zero, List.set_cons_succ, List.getElem_toArray, List.getElem_cons_succ, List.getElem_cons_zero]
  refine wpAnyH_take (i := 6) (v := ?_) rfl (by kernel_rfl) (by kernel_rfl) (by kernel_rfl) (fun _ _ _ h => h) (Or.inl ⟨by kernel_rfl, ?_⟩) hHeld ?_
  rotate_left
  · intro W hS
    go_simp
    try rfl
  simp only [Act.put, List.setIfInBounds_toArray, List.set_cons_zero, List.set_cons_succ, List.getElem_toArray, List.getElem_cons_succ, List.getElem_cons_zero]
  refine wpAnyH_take (i := 7) (v := ?_) rfl (by kernel_rfl) (by kernel_rfl) (by kernel_rfl) (fun _ _ _ h => h) (Or.inl ⟨by kernel_rfl, ?_⟩) hHeld ?_
  rotate_left
  · intro W hS
    have c1 := hS.c1
    rw [Int.natCast_add] at c1
    go_simp
    try rfl
  simp only [Act.put, List.setIfInBounds_toArray, List.set_cons_zero, List.set_cons_succ, List.getElem_toArray, List.getElem_cons_succ, List.getElem_cons_zero]
  refine wpAnyH_take (i := 8) (v := ?_) rfl (by kernel_rfl) (by kernel_rfl) (by kernel_rfl) (fun _ _ _ h => h) (Or.inl ⟨by kernel_rfl, ?_⟩) hHeld ?_
  rotate_left
  · intro W hS
    go_simp
    try rfl
  simp only [Act.put, List.setIfInBounds_toArray, List.set_cons_zero, List.set_cons_succ, List.getElem_toArray, List.getElem_cons_succ, List.getElem_cons_zero]
  refine wpAnyH_take (i := 9) (v := ?_) rfl (by kernel_rfl) (by kernel_rfl) (by kernel_rfl) (fun _ _ _ h => h) (Or.inl ⟨by kernel_rfl, ?_⟩) hHeld ?_
  rotate_left
  · intro W hS
    go_simp
    try rfl
  simp only [Act.put, List.setIfInBounds_toArray, List.set_cons_zero, List.set_cons_succ, List.getElem_toArray, List.getElem_cons_succ, List.getElem_cons_zero]
  refine wpAnyH_take (i := 10) (v := ?_) rfl (by kernel_rfl) (by kernel_rfl) (by kernel_rfl) (fun _ _ _ h => h) (Or.inl ⟨by kernel_rfl, ?_⟩) hHeld ?_
  rotate_left
  · intro W hS
    go_simp
    try rfl
  simp only [Act.put, List.setIfInBounds_toArray, List.set_cons_zero, List.set_cons_succ, List.getElem_toArray, List.getElem_cons_succ, List.getElem_cons_zero]
  refine wpAnyH_take (i := 11) (v := ?_) rfl (by kernel_rfl) (by kernel_rfl) (by kernel_rfl) (fun _ _ _ h => h) (Or.inl ⟨by kernel_rfl, ?_⟩) hHeld ?_
  rotate_left
  · intro W hS
    go_simp
    try rfl
  simp only [Act.put, List.setIfInBounds_toArray, List.set_cons_zero, List.set_cons_succ, List.getElem_toArray, List.getElem_cons_succ, List.getElem_cons_zero]
  refine wpAnyH_take (i := 12) (v := ?_) rfl (by kernel_rfl) (by kernel_rfl) (by kernel_rfl) (fun _ _ _ h => h) (Or.inl ⟨by kernel_rfl, ?_⟩) hHeld ?_
  rotate_left
  · intro W hS
    go_simp
    try rfl
  simp only [Act.put, List.setIfInBounds_toArray, List.set_cons_zero, List.set_cons_succ, List.getElem_toArray, List.getElem_cons_succ, List.getElem_cons_zero]
  refine wpAnyH_take (i := 13) (v := ?_) rfl (by kernel_rfl) (by kernel_rfl) (by kernel_rfl) (fun _ _ _ h => h) (Or.inl ⟨by kernel_rfl, ?_⟩) hHeld ?_
  rotate_left
  · intro W hS
    have c1 := hS.c1
    rw [Int.natCast_add] at c1
    go_simp
    try rfl
  simp only [Act.put, List.setIfInBounds_toArray, List.set_cons_zero, List.set_cons_succ, List.getElem_toArray, List.getElem_cons_succ, List.getElem_cons_zero]
  refine wpAnyH_take (i := 14) (v := ?_) rfl (by kernel_rfl) (by kernel_rfl) (by kernel_rfl) (fun _ _ _ h => h) (Or.inl ⟨by kernel_rfl, ?_⟩) hHeld ?_
  rotate_left
  · intro W hS
    go_simp
    try rfl
  simp only [Act.put, List.setIfInBounds_toArray, List.set_cons_zero, List.set_cons_succ, List.getElem_toArray, List.getElem_cons_succ, List.getElem_cons_zero]
  refine wpAnyH_ready (rs := [15]) (by kernel_rfl) (by simp) ?_
  refine AllReadyH.cons rfl (fun K hK => ?_) AllReadyH.nil
  go_simp
  with_reducible refine (hW.out _ hHeld).mono ?_
  rintro e w2 ⟨rfl, k2⟩
  have hHeld2 := hHeld.below k2 hHeld.lt
  replace kb := kb.drew.trans (But.of (k2.mono (Nat.le_of_eq hsz.symm)) [B])
  refine hK.out _ _ hHeld2 (fun _ => ?_)
  clear hK K
  try simp only [Act.put, List.setIfInBounds_toArray, List.set_cons_zero, List.set_cons_succ]
  refine wpAnyH_take (i := 16) (v := ?_) rfl (by kernel_rfl) (by kernel_rfl) (by kernel_rfl) (fun _ _ _ h => h) (Or.inl ⟨by kernel_rfl, ?_⟩) hHeld2 ?_
  rotate_left
  · intro W hS
    go_simp
    try rfl
  simp only [Act.put, List.setIfInBounds_toArray, List.set_cons_zero, List.set_cons_succ, List.getElem_toArray, List.getElem_cons_succ, List.getElem_cons_zero]
  refine wpAnyH_done (by kernel_rfl) ?_ _
  go_wp2
  go_ret
  exact ⟨rfl, hHeld2, kb⟩
end Go.Proofs.YtcdoidnfdkodoaaGreatDoor
namespace Go.Proofs.YtcdoidnfdkodoaaGreatDoor
open Go.RowKit
set_option linter.unusedVariables false
set_option linter.unusedSimpArgs false
set_option linter.unusedSectionVars false
theorem pow_scale (k : Int) (h : 0 ≤ k ∧ k < 4) : (2 : Int) ^ k.toNat % 4294967296 = 2 ^ k.toNat := by
  rcases (by omega : k = 0 ∨ k = 1 ∨ k = 2 ∨ k = 3) with rfl | rfl | rfl | rfl <;> decide
theorem scaled_no (s : Int) (h : 0 ≤ s ∧ s ≤ 4294967295) (hx : s / 8 % 8 = 4) (w : World) :
    Calls Tryz.prog 274 #[.int .u32 s] w fun e w' => e = .returned (.tuple #[.int .i64 (s % 8), .int .i64 (-1), .int .u32 1]) ∧ Below w.heap.size w w' := by
  have h1 := fun w => middle_any s h w
  have h2 := fun w => lowest3_any s h w
  have kd : Below w.heap.size w w := Below.refl _ _
  go_enter Tryz.func274, Tryz.ntmps274
  go_wp2_with (first | (go_at_call 266; refine (h1 _).mono ?_; rintro e w' ⟨rfl, rfl⟩) | (go_at_call 269; refine (h2 _).mono ?_; rintro e w' ⟨rfl, rfl⟩))
  go_ret3
  exact ⟨rfl, kd⟩
theorem scaled_yes (s : Int) (h : 0 ≤ s ∧ s ≤ 4294967295) (hx : ¬ s / 8 % 8 = 4) (w : World) :
    Calls Tryz.prog 274 #[.int .u32 s] w fun e w' => e = .returned (.tuple #[.int .i64 (s % 8), .int .i64 (s / 8 % 8), .int .u32 (2 ^ (s / 64 % 4).toNat)]) ∧ Below w.heap.size w w' := by
  have h1 := fun w => middle_any s h w
  have h2 := fun w => lowest3_any s h w
  have h3 := fun w => highest_any s h w
  have hp : IntKind.u32.wrap (2 ^ (s / 64 % 4).toNat) = 2 ^ (s / 64 % 4).toNat := by rw [IntKind.wrap_u32]; exact pow_scale (s / 64 % 4) (by omega)
  have hb : 0 ≤ s / 64 % 4 ∧ s / 64 % 4 < 4 := by omega
  have hm : min (s / 64 % 4).toNat 32 = (s / 64 % 4).toNat := by omega
  have kd : Below w.heap.size w w.drew := ⟨rfl, rfl, rfl, Nat.le_refl _, fun _ _ => rfl⟩
  generalize s / 64 % 4 = k at *
  generalize s / 8 % 8 = x at *
  generalize s % 8 = b at *
  go_enter Tryz.func274, Tryz.ntmps274
  go_wp2_with (first | (go_at_call 266; refine (h1 _).mono ?_; rintro e w' ⟨rfl, rfl⟩))
  refine wp_region_held_drew (S := fun W => Below w.heap.size w W) (by kernel_rfl) kd (fun hHeld => ?_)
  refine wpAnyH_take (i := 0) (v := ?_) rfl (by kernel_rfl) (by kernel_rfl) (by kernel_rfl) (fun _ _ _ h => h) (Or.inl ⟨by kernel_rfl, ?_⟩) hHeld ?_
  rotate_left
  · intro W hS
    go_simp
    try rfl
  simp only [Act.put, List.setIfInBounds_toArray, List.set_cons_zero, List.set_cons_succ, List.getElem_toArray, List.getElem_cons_succ, List.getElem_cons_zero]
  refine wpAnyH_take (i := 2) (v := ?_) rfl (by kernel_rfl) (by kernel_rfl) (by kernel_rfl) (fun _ _ _ h => h) (Or.inl ⟨by kernel_rfl, ?_⟩) hHeld ?_
  rotate_left
  · intro W hS
    go_simp
    try rfl
  simp only [Act.put, List.setIfInBounds_toArray, List.set_cons_zero, List.set_cons_succ, List.getElem_toArray, List.getElem_cons_succ, List.getElem_cons_zero]
  refine wpAnyH_take (i := 4) (v := ?_) rfl (by kernel_rfl) (by kernel_rfl) (by kernel_rfl) (fun _ _ _ h => h) (Or.inl ⟨by kernel_rfl, ?_⟩) hHeld ?_
  rotate_left
  · intro W hS
    go_simp
    try rfl
  simp only [Act.put, List.setIfInBounds_toArray, List.set_cons_zero, List.set_cons_succ, List.getElem_toArray, List.getElem_cons_succ, List.getElem_cons_zero]
  refine wpAnyH_ready (rs := [1]) (by kernel_rfl) (by simp) ?_
  refine AllReadyH.cons rfl (fun K hK => ?_) AllReadyH.nil
  go_simp
  with_reducible refine (h2 _).mono ?_
  rintro e w2 ⟨rfl, rfl⟩
  refine hK.out _ _ hHeld (fun _ => ?_)
  clear hK K
  try simp only [Act.put, List.setIfInBounds_toArray, List.set_cons_zero, List.set_cons_succ]
  refine wpAnyH_ready (rs := [3]) (by kernel_rfl) (by simp) ?_
  refine AllReadyH.cons rfl (fun K hK => ?_) AllReadyH.nil
  go_simp
  with_reducible refine (h1 _).mono ?_
  rintro e w2 ⟨rfl, rfl⟩
  refine hK.out _ _ hHeld (fun _ => ?_)
  clear hK K
  try simp only [Act.put, List.setIfInBounds_toArray, List.set_cons_zero, List.set_cons_succ]
  refine wpAnyH_ready (rs := [5]) (by kernel_rfl) (by simp) ?_
  refine AllReadyH.cons rfl (fun K hK => ?_) AllReadyH.nil
  go_simp
  with_reducible refine (h3 _).mono ?_
  rintro e w2 ⟨rfl, rfl⟩
  refine hK.out _ _ hHeld (fun _ => ?_)
  clear hK K
  try simp only [Act.put, List.setIfInBounds_toArray, List.set_cons_zero, List.set_cons_succ]
  refine wpAnyH_take (i := 6) (v := ?_) rfl (by kernel_rfl) (by kernel_rfl) (by kernel_rfl) (fun _ _ _ h => h) (Or.inl ⟨by kernel_rfl, ?_⟩) hHeld ?_
  rotate_left
  · intro W hS
    go_simp
    try rfl
  simp only [Act.put, List.setIfInBounds_toArray, List.set_cons_zero, List.set_cons_succ, List.getElem_toArray, List.getElem_cons_succ, List.getElem_cons_zero]
  refine wpAnyH_take (i := 7) (v := ?_) rfl (by kernel_rfl) (by kernel_rfl) (by kernel_rfl) (fun _ _ _ h => h) (Or.inl ⟨by kernel_rfl, ?_⟩) hHeld ?_
  rotate_left
  · intro W hS
    go_simp
    try rfl
  simp only [Act.put, List.setIfInBounds_toArray, List.set_cons_zero, List.set_cons_succ, List.getElem_toArray, List.getElem_cons_succ, List.getElem_cons_zero]
  refine wpAnyH_take (i := 8) (v := ?_) rfl (by kernel_rfl) (by kernel_rfl) (by kernel_rfl) (fun _ _ _ h => h) (Or.inl ⟨by kernel_rfl, ?_⟩) hHeld ?_
  rotate_left
  · intro W hS
    go_simp
    try rfl
  simp only [Act.put, List.setIfInBounds_toArray, List.set_cons_zero, List.set_cons_succ, List.getElem_toArray, List.getElem_cons_succ, List.getElem_cons_zero]
  refine wpAnyH_take (i := 9) (v := ?_) rfl (by kernel_rfl) (by kernel_rfl) (by kernel_rfl) (fun _ _ _ h => h) (Or.inl ⟨by kernel_rfl, ?_⟩) hHeld ?_
  rotate_left
  · intro W hS
    go_simp
    try rfl
  simp only [Act.put, List.setIfInBounds_toArray, List.set_cons_zero, List.set_cons_succ, List.getElem_toArray, List.getElem_cons_succ, List.getElem_cons_zero]
  refine wpAnyH_done (by kernel_rfl) ?_ _
  go_wp2
  go_ret3
  exact ⟨rfl, hHeld⟩
section
variable {w : World} {N B : Nat} {a : Option Addr} {len cap : Nat} {zs : List Int} {p : Nat} {c m : Int}
theorem sign8s_any (x : Int) (w : World) : Calls Tryz.prog 155 #[.int .u32 x] w fun e w' => e = .returned (.int .u32 (sx x)) ∧ w = w' := sign8_any x w
def distV (zs : List Int) (p : Nat) (how : Int) : Int := if how = 1 then sx (zs.getD p 0) else if how = 2 then le4 zs p else 0
def distN (how : Int) : Nat := if how = 1 then 1 else if how = 2 then 4 else 0
theorem distance_no (R : Rd w N B a len cap zs p c m) (how : Int) (h : ¬ p + distN how ≤ zs.length) :
    Calls Tryz.prog 275 #[rp B, .int .i64 how] w fun e w' => e = .panicked (errP 10) ∧ Below w.heap.size w w' := by
  by_cases h1 : how = 1
  · subst h1
    have hn := next_no R 1 (.inl rfl) h
    go_enter Tryz.func275, Tryz.ntmps275
    go_wp2_with ((go_at_call 247; refine (hn).mono ?_); rintro e w1 ⟨rfl, k⟩)
    exact ⟨rfl, rfl, k⟩
  · by_cases h2 : how = 2
    · subst h2
      have hn := next_no R 4 (.inr rfl) h
      go_enter Tryz.func275, Tryz.ntmps275
      go_wp2_with ((go_at_call 247; refine (hn).mono ?_); rintro e w1 ⟨rfl, k⟩)
      exact ⟨rfl, rfl, k⟩
    · have := R.pl
      have := R.len_eq
      unfold distN at h
      rw [if_neg h1, if_neg h2] at h
      omega
theorem distance_yes (R : Rd w N B a len cap zs p c m) (how : Int) (h : p + distN how ≤ zs.length) :
    Calls Tryz.prog 275 #[rp B, .int .i64 how] w fun e w' => e = .returned (.int .u32 (distV zs p how)) ∧ Rd w' N B a len cap zs (p + distN how) c m ∧ But [B] w.heap.size w w' := by
  by_cases h1 : how = 1
  · subst h1
    have hn := next_yes R 1 (.inl rfl) h
    rw [num1] at hn
    have hb : distV zs p 1 = sx (zs.getD p 0) := rfl
    generalize zs.getD p 0 = z at *
    go_enter Tryz.func275, Tryz.ntmps275
    go_wp2_with (first | ((go_at_call 247; refine (hn).mono ?_); rintro e w1 ⟨rfl, k⟩) | (go_at_call 155; refine (sign8s_any _ _).mono ?_; rintro e w' ⟨rfl, rfl⟩))
    go_ret
    exact ⟨ret_int hb.symm, k⟩
  · by_cases h2 : how = 2
    · subst h2
      have hn := next_yes R 4 (.inr rfl) h
      rw [num4] at hn
      go_enter Tryz.func275, Tryz.ntmps275
      go_wp2_with (first | ((go_at_call 247; refine (hn).mono ?_); rintro e w1 ⟨rfl, k⟩))
      go_ret
      exact ⟨rfl, k⟩
    · have e1 : distV zs p how = 0 := by unfold distV; rw [if_neg h1, if_neg h2]
      have e2 : distN how = 0 := by unfold distN; rw [if_neg h1, if_neg h2]
      rw [e1, e2]
      go_enter Tryz.func275, Tryz.ntmps275
      go_wp2
      go_ret
      exact ⟨rfl, R, But.refl _ _ _⟩
theorem next1_yes (R : Rd w N B a len cap zs p c m) (h : p + 1 ≤ zs.length) :
    Calls Tryz.prog 247 #[rp B, .int .i64 1] w fun e w' => e = .returned (.int .u32 (zs.getD p 0)) ∧ Rd w' N B a len cap zs (p + 1) c m ∧ But [B] w.heap.size w w' := next_yes R 1 (.inl rfl) h
theorem next4_yes (R : Rd w N B a len cap zs p c m) (h : p + 4 ≤ zs.length) :
    Calls Tryz.prog 247 #[rp B, .int .i64 4] w fun e w' => e = .returned (.int .u32 (le4 zs p)) ∧ Rd w' N B a len cap zs (p + 4) c m ∧ But [B] w.heap.size w w' := next_yes R 4 (.inr rfl) h
theorem next1_no (R : Rd w N B a len cap zs p c m) (h : ¬ p + 1 ≤ zs.length) :
    Calls Tryz.prog 247 #[rp B, .int .i64 1] w fun e w' => e = .panicked (errP 10) ∧ Below w.heap.size w w' := next_no R 1 (.inl rfl) h
theorem next4_no (R : Rd w N B a len cap zs p c m) (h : ¬ p + 4 ≤ zs.length) :
    Calls Tryz.prog 247 #[rp B, .int .i64 4] w fun e w' => e = .panicked (errP 10) ∧ Below w.heap.size w w' := next_no R 4 (.inr rfl) h
end
end Go.Proofs.YtcdoidnfdkodoaaGreatDoor
