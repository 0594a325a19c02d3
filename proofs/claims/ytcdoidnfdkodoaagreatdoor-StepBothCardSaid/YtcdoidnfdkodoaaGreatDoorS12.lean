import Derived.Test.YtcdoidnfdkodoaaGreatDoorS11
import Derived.Test.YtcdoidnfdkodoaaGreatDoorS10
import Derived.Test.YtcdoidnfdkodoaaGreatDoorRows
import Derived.Test.YtcdoidnfdkodoaaGreatDoorS00
import Derived.Laws.CopyOwn
import Derived.Test.YtcdoidnfdkodoaaGreatDoorS08
import Derived.Laws.CopyRow
import Derived.Test.YtcdoidnfdkodoaaGreatDoorS01
import Derived.Deep.MidRow
namespace Go.Proofs.YtcdoidnfdkodoaaGreatDoor
open Go.RowKit
set_option linter.unusedVariables false
set_option linter.unusedSimpArgs false
set_option linter.unusedSectionVars false
theorem Read_mem {B : Nat} {m : Mm} {w : World} (h : PAt w B m) (ok : m.ok) (g : Gs) (o : On) (n : Int) (hk : o.k = 3) {q : Nat} (hq : numL (numO n) = q) (hl : lackL m (plO g o) 1 q = none) :
    Calls Tryz.prog 197 #[mp B, stV g, opV o, .int .i64 n] w fun e w' => e = .returned (.tuple #[.int .u32 (readL m (plO g o).toNat q), fltV 0 0 0 0, .bool true]) ∧ Below w.heap.size w w' := by
  subst hq
  exact oRead_yes h g o n _ (fun W hW => read_mem hW ok g o (numO n) hk hl)
theorem Read_reg {B : Nat} {m : Mm} {w : World} (h : PAt w B m) (g : Gs) (o : On) (n : Int) (hk : o.k = 1) (hn : numO n = 4) :
    Calls Tryz.prog 197 #[mp B, stV g, opV o, .int .i64 n] w fun e w' => e = .returned (.tuple #[.int .u32 (regV g o.r), fltV 0 0 0 0, .bool true]) ∧ Below w.heap.size w w' :=
  oRead_yes h g o n _ (fun W hW => by rw [hn]; exact read_reg4 (mp B) g o hk W)
theorem Write_mem {B : Nat} {m : Mm} {w : World} (h : PAt w B m) (ok : m.ok) (g : Gs) (o : On) (n v : Int) (hv : 0 ≤ v ∧ v ≤ 4294967295) (hk : o.k = 3) (hl : lackL m (plO g o) 2 (numL (numO n)) = none) :
    Calls Tryz.prog 196 #[mp B, stV g, opV o, .int .i64 n, .int .u32 v] w fun e w' => e = .returned (.tuple #[stV g, fltV 0 0 0 0, .bool true]) ∧ PAt w' B (wroteS m (plO g o).toNat (numO n) v) ∧ But [B] w.heap.size w w' :=
  oWrite_yes h g o n v g _ (fun W hW => written_mem hW ok g o (numO n) v hv hk hl)
theorem Write_reg {B : Nat} {m : Mm} {w : World} (h : PAt w B m) (g : Gs) (o : On) (n v : Int) (j : Nat) (hj : j < 8) (hk : o.k = 1) (hr : o.r = j) (hn : numO n = 4) :
    Calls Tryz.prog 196 #[mp B, stV g, opV o, .int .i64 n, .int .u32 v] w fun e w' => e = .returned (.tuple #[stV (setr g j v), fltV 0 0 0 0, .bool true]) ∧ PAt w' B m ∧ But [B] w.heap.size w w' :=
  oWrite_yes h g o n v (setr g j v) m (fun W hW => by rw [hn]; exact (written_reg4 (mp B) g o j hj hk hr v W).mono fun e w' hh => ⟨hh.1, hW.below hh.2 hW.lt, But.of hh.2 _⟩)
structure EBx (W : World) (B Km Ka Kv : Nat) (a v : Int) : Prop where
  m : W.cell? ⟨Km, 0, none⟩ = some (mp B)
  a : W.cell? ⟨Ka, 0, none⟩ = some (.int .u32 a)
  v : W.cell? ⟨Kv, 0, none⟩ = some (.int .u64 v)
theorem EBx.below {W W' : World} {B Km Ka Kv : Nat} {a v : Int} (k : EBx W B Km Ka Kv a v) (b : Below W.heap.size W W') : EBx W' B Km Ka Kv a v :=
  ⟨(b.cell (p := ⟨Km, 0, none⟩) (size_of_cell k.m)).trans k.m, (b.cell (p := ⟨Ka, 0, none⟩) (size_of_cell k.a)).trans k.a, (b.cell (p := ⟨Kv, 0, none⟩) (size_of_cell k.v)).trans k.v⟩
end Go.Proofs.YtcdoidnfdkodoaaGreatDoor
namespace Go.Proofs.YtcdoidnfdkodoaaGreatDoor
open Go.RowKit
set_option linter.unusedVariables false
theorem one_any (c : Bool) (w : World) : Calls Tryz.prog 264 #[.bool c] w fun e w' => e = .returned (.int .i64 (c01 c)) ∧ w = w' := by
  cases c <;>
  · go_enter Tryz.func264, Tryz.ntmps264
    go_wp2
    go_ret
    exact ⟨rfl, rfl⟩
theorem beyond_any (p s : Int) (w : World) : Calls Tryz.prog 265 #[.int .i64 p, .int .i64 s] w fun e w' => e = .returned (.tuple #[.int .u32 (p % 4294967296), .bool (p != p % 4294967296), .bool (s != wrap32 s)]) ∧ w = w' := by
  have h32 := bd32 s
  go_enter Tryz.func265, Tryz.ntmps265
  go_wp2
  go_ret3
  exact ⟨rfl, rfl⟩
theorem addC_any (a b : Int) (c : Bool) (h : 0 ≤ a ∧ a ≤ 4294967295) (hb : 0 ≤ b ∧ b ≤ 4294967295) (w : World) : Calls Tryz.prog 253 #[.int .u32 a, .int .u32 b, .bool c] w fun e w' =>
    e = .returned (.tuple #[.int .u32 ((a + b + c01 c) % 4294967296), .bool (a + b + c01 c != (a + b + c01 c) % 4294967296), .bool (wrap32 a + wrap32 b + c01 c != wrap32 (wrap32 a + wrap32 b + c01 c))]) ∧ w = w' := by
  have h1 := bd32 a
  have h2 := bd32 b
  have h3 := bd01 c
  go_enter Tryz.func253, Tryz.ntmps253
  go_wp2_with (first | (go_at_call 264; refine (one_any _ _).mono ?_; rintro e w' ⟨rfl, rfl⟩) | (go_at_call 265; refine (beyond_any _ _ _).mono ?_; rintro e w' ⟨rfl, rfl⟩))
  go_ret3
  exact ⟨rfl, rfl⟩
theorem sign8_any (x : Int) (w : World) : Calls Tryz.prog 155 #[.int .u32 x] w fun e w' => e = .returned (.int .u32 (IntKind.i8.wrap x % 4294967296)) ∧ w = w' := by
  go_enter Tryz.func155, Tryz.ntmps155
  go_wp2
  go_ret
  exact ⟨rfl, rfl⟩
theorem lowest_any (n : Nat) (h : n ≤ 32) (w : World) : Calls Tryz.prog 263 #[.int .i64 n] w fun e w' => e = .returned (.int .u32 (2 ^ n - 1)) ∧ w = w' := by
  go_enter Tryz.func263, Tryz.ntmps263
  go_wp2
  go_ret
  exact ⟨ret_int (low_mask h), rfl⟩
theorem moved_any (x n : Int) (h : 0 ≤ x ∧ x ≤ 4294967295) (hn : -9223372036854775808 ≤ n ∧ n ≤ 9223372036854775807) (w : World) : Calls Tryz.prog 262 #[.int .u32 x, .int .i64 n] w fun e w' => e = .returned (.int .u32 (mov x n)) ∧ w = w' := by
  by_cases c1 : 0 ≤ n
  · obtain ⟨k, rfl⟩ := Int.eq_ofNat_of_zero_le c1
    go_enter Tryz.func262, Tryz.ntmps262
    go_wp2
    go_ret
    exact ⟨ret_int mov_up, rfl⟩
  · by_cases c2 : n < -32
    · go_enter Tryz.func262, Tryz.ntmps262
      go_wp2
      go_ret
      exact ⟨ret_int (mov_far c2), rfl⟩
    · go_enter Tryz.func262, Tryz.ntmps262
      go_wp2
      go_ret
      exact ⟨ret_int (mov_down (by omega) (by omega)), rfl⟩
theorem parity_any (x : Int) (h : 0 ≤ x ∧ x ≤ 4294967295) (w : World) : Calls Tryz.prog 252 #[.int .u32 x] w fun e w' => e = .returned (.bool (evenS x.toNat 8)) ∧ w = w' := by
  obtain ⟨X, rfl⟩ := Int.eq_ofNat_of_zero_le h.1
  rw [Int.toNat_natCast]
  go_enter Tryz.func252, Tryz.ntmps252
  go_wp2
  go_ret
  exact ⟨ret_bool (fold_even X (by omega)), rfl⟩
theorem field_any (x n k : Int) (h : 0 ≤ x ∧ x ≤ 4294967295) (hn : -9223372036854775808 ≤ n ∧ n ≤ 9223372036854775807) (w : World) : Calls Tryz.prog 251 #[.int .u32 x, .int .i64 n, .int .i64 k] w fun e w' => e = .returned (.int .u32 (fieldS x n k)) ∧ w = w' := by
  have hm := mov_bd x n h
  by_cases c1 : k < 0
  · go_enter Tryz.func251, Tryz.ntmps251
    go_wp2_with (first | (go_at_call 262; refine (moved_any _ _ h hn _).mono ?_; rintro e w' ⟨rfl, rfl⟩) | (go_at_call 263; refine (lowest_any 0 (by omega) _).mono ?_; rintro e w' ⟨rfl, rfl⟩))
    go_ret
    exact ⟨ret_int (field_lo hm c1), rfl⟩
  · by_cases c2 : 32 < k
    · go_enter Tryz.func251, Tryz.ntmps251
      go_wp2_with (first | (go_at_call 262; refine (moved_any _ _ h hn _).mono ?_; rintro e w' ⟨rfl, rfl⟩) | (go_at_call 263; refine (lowest_any 32 (by omega) _).mono ?_; rintro e w' ⟨rfl, rfl⟩))
      go_ret
      exact ⟨ret_int (field_hi hm c2), rfl⟩
    · obtain ⟨K, rfl⟩ := Int.eq_ofNat_of_zero_le (show 0 ≤ k by omega)
      go_enter Tryz.func251, Tryz.ntmps251
      go_wp2_with (first | (go_at_call 262; refine (moved_any _ _ h hn _).mono ?_; rintro e w' ⟨rfl, rfl⟩) | (go_at_call 263; refine (lowest_any _ (by omega) _).mono ?_; rintro e w' ⟨rfl, rfl⟩))
      go_ret
      exact ⟨ret_int (field_mid hm (by omega)), rfl⟩
theorem bytes_any (x : Int) (h : 0 ≤ x ∧ x ≤ 4294967295) (w : World) : Calls Tryz.prog 272 #[.int .u32 x] w fun e w' =>
    e = .returned (.agg #[.int .u8 (x % 256), .int .u8 (x / 256 % 256), .int .u8 (x / 65536 % 256), .int .u8 (x / 16777216)]) ∧
    w.alloc (.cells #[.int .u8 (x % 256), .int .u8 (x / 256 % 256), .int .u8 (x / 65536 % 256), .int .u8 (x / 16777216)] 255) = w' := by
  go_enter Tryz.func272, Tryz.ntmps272
  go_wp2
  exact bodyPost_ret (v := .agg #[.int .u8 (x % 256), .int .u8 (x / 256 % 256), .int .u8 (x / 65536 % 256), .int .u8 (x / 16777216)]) (by simp [results, Tryz.results272, go_sem]) rfl ⟨rfl, rfl⟩
set_option maxRecDepth 100000 in
theorem word_any (a : Option Addr) (len cap : Nat) (zs : List Int) (w : World) (h : Row8 w a len zs) : Calls Tryz.prog 257 #[.slice a len cap] w fun e w' => e = .returned (.int .u32 (wordS zs)) ∧ Below w.heap.size w w' := by
  obtain ⟨rfl, hz, h3⟩ := h
  have b0 := getD_bd hz 0
  have b1 := getD_bd hz 1
  have b2 := getD_bd hz 2
  have b3 := getD_bd hz 3
  have hsp := splice4 zs
  have hw : wordS zs = zs.getD 0 0 + zs.getD 1 0 * 256 + zs.getD 2 0 * 65536 + zs.getD 3 0 * 16777216 := rfl
  generalize zs.getD 0 0 = z0 at hsp hw b0
  generalize zs.getD 1 0 = z1 at hsp hw b1
  generalize zs.getD 2 0 = z2 at hsp hw b2
  generalize zs.getD 3 0 = z3 at hsp hw b3
  have Hsp := Lib.hid hsp
  have Hw := Lib.hid hw
  clear hsp hw
  have hcs : ((zs.take 4).map (Value.int .u8)).length = Nat.min zs.length 4 := by simp [Nat.min_comm]
  go_enter Tryz.func257, Tryz.ntmps257
  go_wp2_with (refine wpList_copy_splice rfl _ _ _ _ rfl 5 rfl (by kernel_rfl) _ _ _ _ _ _ rfl rfl w.heap.size 0 [.int .u8 0, .int .u8 0, .int .u8 0, .int .u8 0] 255 ?hg ((zs.take 4).map (Value.int .u8)) hcs ?hpos ?hfit ?h1 w.heap.size w ?hb ?hBg ?h)
  case hg => exact alloc_new _ _
  case hpos =>
    intro hp
    rcases h3 with rfl | ⟨b, off, rfl, hlt, hc⟩
    · simp at hp
    · refine ⟨_, rfl, fun j v hv => ?_⟩
      have hj : j < 4 ∧ j < zs.length := by
        have := (List.getElem?_eq_some_iff.1 hv).1
        simp at this; omega
      have := hc j hj.2
      rw [List.getD_eq_getElem?_getD, List.getElem?_eq_getElem hj.2, Option.getD_some] at this
      simp [hj.1, hj.2] at hv
      subst hv
      rw [← this]
      rw [show (⟨b, off, none⟩ : Addr).add j = ⟨b, off + j, none⟩ by simp [Addr.add]]
      exact World.cell?_alloc_lt w _ ⟨b, off + j, none⟩ hlt
  case hfit => simp; omega
  case h1 => exact fun v hv => by obtain ⟨z, _, rfl⟩ := List.mem_map.1 hv; rfl
  case hb => exact (Below.refl _ _).alloc (Nat.le_refl _) _
  case hBg => exact Nat.le_refl _
  intro w2 HG hB2
  have HG' := HG.out
  rw [Hsp.out] at HG'
  obtain ⟨c0, c1, c2, c3⟩ := cells4 HG'
  clear HG HG'
  go_wp2
  go_ret
  exact ⟨ret_int ((or_bytes _ _ _ _ b0 b1 b2 b3).trans Hw.out.symm), hB2⟩
end Go.Proofs.YtcdoidnfdkodoaaGreatDoor
namespace Go.Proofs.YtcdoidnfdkodoaaGreatDoor
open Go.RowKit
set_option linter.unusedVariables false
set_option linter.unusedSimpArgs false
set_option linter.unusedSectionVars false
theorem sz17 : (Tryz.prog.info? 29).map (·.size) = some 17 := szS
theorem left_eq (i : Int) (n : Nat) (h0 : 0 < n) (h1 : n ≤ 16) (hi : -9223372036854775808 ≤ i ∧ i ≤ 9223372036854775807) : (wrap64 (i.tmod n + n)).tmod n = i % n := by
  have hn : (0 : Int) < n := by omega
  have hm : 0 ≤ i % (n : Int) ∧ i % (n : Int) < n := ⟨Int.emod_nonneg _ (by omega), Int.emod_lt_of_pos _ hn⟩
  have ht : i.tmod n = i % n ∨ i.tmod n = i % n - n := by
    by_cases h : 0 ≤ i
    · exact .inl (Int.tmod_eq_emod_of_nonneg h)
    · rw [Int.tmod_eq_emod]
      split
      · left; omega
      · right; simp
  have hw : wrap64 (i.tmod n + n) = i.tmod n + n := by unfold wrap64; omega
  rw [hw, Int.tmod_eq_emod_of_nonneg (by omega)]
  rcases ht with ht | ht
  · rw [ht, Int.add_emod_right, Int.emod_emod]
  · rw [ht, show i % (n : Int) - n + n = i % n by omega, Int.emod_emod]
theorem left_8 (i : Int) (hi : -9223372036854775808 ≤ i ∧ i ≤ 9223372036854775807) (w : World) : Calls Tryz.prog 240 #[.int .i64 i, .int .i64 8] w fun e w' => e = .returned (.int .i64 (i % 8)) ∧ w = w' := by
  go_enter Tryz.func240, Tryz.ntmps240
  go_wp2
  go_ret
  exact ⟨ret_int (left_eq i 8 (by decide) (by decide) hi), rfl⟩
theorem byteOf_any (i : Int) (hi : -9223372036854775808 ≤ i ∧ i ≤ 9223372036854775807) (w : World) : Calls Tryz.prog 271 #[.int .i64 i] w fun e w' => e = .returned (.tuple #[.int .i64 (i % 8 % 4), .int .i64 (i % 8 / 4)]) ∧ w = w' := by
  have hb : 0 ≤ i % 8 ∧ i % 8 < 8 := by omega
  go_enter Tryz.func271, Tryz.ntmps271
  go_wp2_with (first | (go_at_call 240; refine (left_8 _ hi _).mono ?_; rintro e w' ⟨rfl, rfl⟩))
  generalize i % 8 = k at *
  go_ret2
  exact ⟨ret_ii (by omega) (by omega), rfl⟩
def setB (x : Int) (b : Nat) (v : Int) : Int := if b = 0 then x - x % 256 + v % 256 else x - x / 256 % 256 * 256 + v % 256 * 256
abbrev b4 (x : Int) : Value := .agg #[.int .u8 (x % 256), .int .u8 (x / 256 % 256), .int .u8 (x / 65536 % 256), .int .u8 (x / 16777216)]
theorem row4 {w : World} {N : Nat} {t : TypeId} {a b c d : Int} (k : Blk w N t #[.int .u8 a, .int .u8 b, .int .u8 c, .int .u8 d]) (ha : 0 ≤ a ∧ a ≤ 255) (hb : 0 ≤ b ∧ b ≤ 255) (hc : 0 ≤ c ∧ c ≤ 255) (hd : 0 ≤ d ∧ d ≤ 255) :
    Row8 w (some ⟨N, 0, none⟩) 4 [a, b, c, d] := by
  refine ⟨rfl, fun z hz => ?_, .inr ⟨N, 0, rfl, k.lt, fun i hi => ?_⟩⟩
  · simp at hz; rcases hz with rfl | rfl | rfl | rfl <;> assumption
  · rcases (by omega : i = 0 ∨ i = 1 ∨ i = 2 ∨ i = 3) with rfl | rfl | rfl | rfl <;> exact k.cell rfl
theorem stA_set0 (g : Gs) (v : Int) : (stA g).setIfInBounds 0 (.int .u32 v) = stA (setr g 0 v) := by simp [stA, setr]
theorem stA_set1 (g : Gs) (v : Int) : (stA g).setIfInBounds 1 (.int .u32 v) = stA (setr g 1 v) := by simp [stA, setr]
theorem stA_set2 (g : Gs) (v : Int) : (stA g).setIfInBounds 2 (.int .u32 v) = stA (setr g 2 v) := by simp [stA, setr]
theorem stA_set3 (g : Gs) (v : Int) : (stA g).setIfInBounds 3 (.int .u32 v) = stA (setr g 3 v) := by simp [stA, setr]
theorem SetReg8_0 (g : Gs) (h : g.ok) (i v : Int) (hi : -9223372036854775808 ≤ i ∧ i ≤ 9223372036854775807) (hv : 0 ≤ v ∧ v ≤ 4294967295) (e : i % 8 = 0) (w : World) : Calls Tryz.prog 260 #[stV g, .int .i64 i, .int .u32 v] w fun e w' => e = .returned (stV (setr g 0 (setB (g.r 0) 0 v))) ∧ Below w.heap.size w w' := by
  have hb : ∀ w, Calls Tryz.prog 271 #[.int .i64 i] w fun e w' => e = .returned (.tuple #[.int .i64 0, .int .i64 0]) ∧ w = w' := fun w => by
    have := byteOf_any i hi w
    rw [e] at this
    exact this
  have hr := h.r 0
  clear e
  go_enter Tryz.func260, Tryz.ntmps260
  go_wp2_with (first | (go_at_call 271; refine (hb _).mono ?_; rintro e w' ⟨rfl, rfl⟩) | (go_at_call 272; refine (bytes_any _ hr _).mono ?_; rintro e w' ⟨rfl, rfl⟩))
  have kS := (((Blk.new w 29 (stA g)).alloc (.cells z17 29)).alloc (.cells #[.int .u8 (g.r 0 % 256), .int .u8 (g.r 0 / 256 % 256), .int .u8 (g.r 0 / 65536 % 256), .int .u8 (g.r 0 / 16777216)] 255)).alloc (.cells #[.int .u8 (v % 256), .int .u8 (g.r 0 / 256 % 256), .int .u8 (g.r 0 / 65536 % 256), .int .u8 (g.r 0 / 16777216)] 255)
  have kR := ((Blk.new (w.alloc (.cells (stA g) 29)) 29 z17).alloc (.cells #[.int .u8 (g.r 0 % 256), .int .u8 (g.r 0 / 256 % 256), .int .u8 (g.r 0 / 65536 % 256), .int .u8 (g.r 0 / 16777216)] 255)).alloc (.cells #[.int .u8 (v % 256), .int .u8 (g.r 0 / 256 % 256), .int .u8 (g.r 0 / 65536 % 256), .int .u8 (g.r 0 / 16777216)] 255)
  have kL := Blk.new (((w.alloc (.cells (stA g) 29)).alloc (.cells z17 29)).alloc (.cells #[.int .u8 (g.r 0 % 256), .int .u8 (g.r 0 / 256 % 256), .int .u8 (g.r 0 / 65536 % 256), .int .u8 (g.r 0 / 16777216)] 255)) 255 #[.int .u8 (v % 256), .int .u8 (g.r 0 / 256 % 256), .int .u8 (g.r 0 / 65536 % 256), .int .u8 (g.r 0 / 16777216)]
  have kb := ((((Below.refl _ w).alloc (Nat.le_refl _) (.cells (stA g) 29)).alloc (by simp) (.cells z17 29)).alloc (by simp; omega) (.cells #[.int .u8 (g.r 0 % 256), .int .u8 (g.r 0 / 256 % 256), .int .u8 (g.r 0 / 65536 % 256), .int .u8 (g.r 0 / 16777216)] 255)).alloc (by simp; omega) (.cells #[.int .u8 (v % 256), .int .u8 (g.r 0 / 256 % 256), .int .u8 (g.r 0 / 65536 % 256), .int .u8 (g.r 0 / 16777216)] 255)
  simp only [World.size_alloc] at kR kL
  have hrow := row4 kL (by omega) (by omega) (by omega) (by omega)
  refine (word_any _ _ _ _ _ hrow).mono ?_
  rintro e w1 ⟨rfl, b1⟩
  replace kb := kb.trans (b1.mono (by simp; omega))
  replace kS := kS.below b1 kS.lt
  replace kR := kR.below b1 kR.lt
  clear kL hrow b1
  generalize hN : w.heap.size = N at *
  have q := kS.cell (i := 0) (v := .int .u32 (g.r 0)) rfl
  have p := kS.fr 0
  have hval : wordS [v % 256, g.r 0 / 256 % 256, g.r 0 / 65536 % 256, g.r 0 / 16777216] = setB (g.r 0) 0 v := by simp [wordS, setB]; omega
  rw [hval]
  have kE := kS.set 0 (.int .u32 (setB (g.r 0) 0 v))
  rw [stA_set0] at kE
  have kF := kR.other 0 (.int .u32 (setB (g.r 0) 0 v)) (show N + 1 ≠ N by omega)
  have kG := kF.row (stA (setr g 0 (setB (g.r 0) 0 v)))
  have kH := below_rowNew (kb.setCell (p := ⟨N, 0, none⟩) (by simp) (.int .u32 (setB (g.r 0) 0 v))) (N := N + 1) (by omega) (stA (setr g 0 (setB (g.r 0) 0 v)))
  clear kS kR kb hval
  have hs2 : (Tryz.prog.info? 29).map (·.size) = some (stA (setr g 0 (setB (g.r 0) 0 v))).size := sz17
  have hold : z17.size = (stA (setr g 0 (setB (g.r 0) 0 v))).size := rfl
  have hcell : (stA (setr g 0 (setB (g.r 0) 0 v))).all (·.oneCell') = true := stA_one _
  have hag : Value.agg (stA (setr g 0 (setB (g.r 0) 0 v))) = stV (setr g 0 (setB (g.r 0) 0 v)) := rfl
  generalize stA (setr g 0 (setB (g.r 0) 0 v)) = Z at *
  generalize z17 = Z0 at *
  go_wp2_with (first | with_reducible refine wpList_load_row rfl 29 _ rfl N rfl 29 _ (0, 0) _ kE.h Tryz.underlying29 rfl hs2 ?_ | with_reducible refine wpList_store_row rfl 29 _ _ rfl (N + 1) _ rfl rfl 29 _ kF.h hs2 hold hcell ?_)
  exact bodyPost_ret (v := Value.agg Z) (results_cell_row rfl _ _ (N + 1) 29 _ (0, 0) _ rfl kG.h Tryz.underlying29 rfl hs2) rfl ⟨by rw [hag], by rw [hN]; exact kH⟩
theorem SetReg8_1 (g : Gs) (h : g.ok) (i v : Int) (hi : -9223372036854775808 ≤ i ∧ i ≤ 9223372036854775807) (hv : 0 ≤ v ∧ v ≤ 4294967295) (e : i % 8 = 1) (w : World) : Calls Tryz.prog 260 #[stV g, .int .i64 i, .int .u32 v] w fun e w' => e = .returned (stV (setr g 1 (setB (g.r 1) 0 v))) ∧ Below w.heap.size w w' := by
  have hb : ∀ w, Calls Tryz.prog 271 #[.int .i64 i] w fun e w' => e = .returned (.tuple #[.int .i64 1, .int .i64 0]) ∧ w = w' := fun w => by
    have := byteOf_any i hi w
    rw [e] at this
    exact this
  have hr := h.r 1
  clear e
  go_enter Tryz.func260, Tryz.ntmps260
  go_wp2_with (first | (go_at_call 271; refine (hb _).mono ?_; rintro e w' ⟨rfl, rfl⟩) | (go_at_call 272; refine (bytes_any _ hr _).mono ?_; rintro e w' ⟨rfl, rfl⟩))
  have kS := (((Blk.new w 29 (stA g)).alloc (.cells z17 29)).alloc (.cells #[.int .u8 (g.r 1 % 256), .int .u8 (g.r 1 / 256 % 256), .int .u8 (g.r 1 / 65536 % 256), .int .u8 (g.r 1 / 16777216)] 255)).alloc (.cells #[.int .u8 (v % 256), .int .u8 (g.r 1 / 256 % 256), .int .u8 (g.r 1 / 65536 % 256), .int .u8 (g.r 1 / 16777216)] 255)
  have kR := ((Blk.new (w.alloc (.cells (stA g) 29)) 29 z17).alloc (.cells #[.int .u8 (g.r 1 % 256), .int .u8 (g.r 1 / 256 % 256), .int .u8 (g.r 1 / 65536 % 256), .int .u8 (g.r 1 / 16777216)] 255)).alloc (.cells #[.int .u8 (v % 256), .int .u8 (g.r 1 / 256 % 256), .int .u8 (g.r 1 / 65536 % 256), .int .u8 (g.r 1 / 16777216)] 255)
  have kL := Blk.new (((w.alloc (.cells (stA g) 29)).alloc (.cells z17 29)).alloc (.cells #[.int .u8 (g.r 1 % 256), .int .u8 (g.r 1 / 256 % 256), .int .u8 (g.r 1 / 65536 % 256), .int .u8 (g.r 1 / 16777216)] 255)) 255 #[.int .u8 (v % 256), .int .u8 (g.r 1 / 256 % 256), .int .u8 (g.r 1 / 65536 % 256), .int .u8 (g.r 1 / 16777216)]
  have kb := ((((Below.refl _ w).alloc (Nat.le_refl _) (.cells (stA g) 29)).alloc (by simp) (.cells z17 29)).alloc (by simp; omega) (.cells #[.int .u8 (g.r 1 % 256), .int .u8 (g.r 1 / 256 % 256), .int .u8 (g.r 1 / 65536 % 256), .int .u8 (g.r 1 / 16777216)] 255)).alloc (by simp; omega) (.cells #[.int .u8 (v % 256), .int .u8 (g.r 1 / 256 % 256), .int .u8 (g.r 1 / 65536 % 256), .int .u8 (g.r 1 / 16777216)] 255)
  simp only [World.size_alloc] at kR kL
  have hrow := row4 kL (by omega) (by omega) (by omega) (by omega)
  refine (word_any _ _ _ _ _ hrow).mono ?_
  rintro e w1 ⟨rfl, b1⟩
  replace kb := kb.trans (b1.mono (by simp; omega))
  replace kS := kS.below b1 kS.lt
  replace kR := kR.below b1 kR.lt
  clear kL hrow b1
  generalize hN : w.heap.size = N at *
  have q := kS.cell (i := 1) (v := .int .u32 (g.r 1)) rfl
  have p := kS.fr 1
  have hval : wordS [v % 256, g.r 1 / 256 % 256, g.r 1 / 65536 % 256, g.r 1 / 16777216] = setB (g.r 1) 0 v := by simp [wordS, setB]; omega
  rw [hval]
  have kE := kS.set 1 (.int .u32 (setB (g.r 1) 0 v))
  rw [stA_set1] at kE
  have kF := kR.other 1 (.int .u32 (setB (g.r 1) 0 v)) (show N + 1 ≠ N by omega)
  have kG := kF.row (stA (setr g 1 (setB (g.r 1) 0 v)))
  have kH := below_rowNew (kb.setCell (p := ⟨N, 1, none⟩) (by simp) (.int .u32 (setB (g.r 1) 0 v))) (N := N + 1) (by omega) (stA (setr g 1 (setB (g.r 1) 0 v)))
  clear kS kR kb hval
  have hs2 : (Tryz.prog.info? 29).map (·.size) = some (stA (setr g 1 (setB (g.r 1) 0 v))).size := sz17
  have hold : z17.size = (stA (setr g 1 (setB (g.r 1) 0 v))).size := rfl
  have hcell : (stA (setr g 1 (setB (g.r 1) 0 v))).all (·.oneCell') = true := stA_one _
  have hag : Value.agg (stA (setr g 1 (setB (g.r 1) 0 v))) = stV (setr g 1 (setB (g.r 1) 0 v)) := rfl
  generalize stA (setr g 1 (setB (g.r 1) 0 v)) = Z at *
  generalize z17 = Z0 at *
  go_wp2_with (first | with_reducible refine wpList_load_row rfl 29 _ rfl N rfl 29 _ (0, 0) _ kE.h Tryz.underlying29 rfl hs2 ?_ | with_reducible refine wpList_store_row rfl 29 _ _ rfl (N + 1) _ rfl rfl 29 _ kF.h hs2 hold hcell ?_)
  exact bodyPost_ret (v := Value.agg Z) (results_cell_row rfl _ _ (N + 1) 29 _ (0, 0) _ rfl kG.h Tryz.underlying29 rfl hs2) rfl ⟨by rw [hag], by rw [hN]; exact kH⟩
theorem SetReg8_2 (g : Gs) (h : g.ok) (i v : Int) (hi : -9223372036854775808 ≤ i ∧ i ≤ 9223372036854775807) (hv : 0 ≤ v ∧ v ≤ 4294967295) (e : i % 8 = 2) (w : World) : Calls Tryz.prog 260 #[stV g, .int .i64 i, .int .u32 v] w fun e w' => e = .returned (stV (setr g 2 (setB (g.r 2) 0 v))) ∧ Below w.heap.size w w' := by
  have hb : ∀ w, Calls Tryz.prog 271 #[.int .i64 i] w fun e w' => e = .returned (.tuple #[.int .i64 2, .int .i64 0]) ∧ w = w' := fun w => by
    have := byteOf_any i hi w
    rw [e] at this
    exact this
  have hr := h.r 2
  clear e
  go_enter Tryz.func260, Tryz.ntmps260
  go_wp2_with (first | (go_at_call 271; refine (hb _).mono ?_; rintro e w' ⟨rfl, rfl⟩) | (go_at_call 272; refine (bytes_any _ hr _).mono ?_; rintro e w' ⟨rfl, rfl⟩))
  have kS := (((Blk.new w 29 (stA g)).alloc (.cells z17 29)).alloc (.cells #[.int .u8 (g.r 2 % 256), .int .u8 (g.r 2 / 256 % 256), .int .u8 (g.r 2 / 65536 % 256), .int .u8 (g.r 2 / 16777216)] 255)).alloc (.cells #[.int .u8 (v % 256), .int .u8 (g.r 2 / 256 % 256), .int .u8 (g.r 2 / 65536 % 256), .int .u8 (g.r 2 / 16777216)] 255)
  have kR := ((Blk.new (w.alloc (.cells (stA g) 29)) 29 z17).alloc (.cells #[.int .u8 (g.r 2 % 256), .int .u8 (g.r 2 / 256 % 256), .int .u8 (g.r 2 / 65536 % 256), .int .u8 (g.r 2 / 16777216)] 255)).alloc (.cells #[.int .u8 (v % 256), .int .u8 (g.r 2 / 256 % 256), .int .u8 (g.r 2 / 65536 % 256), .int .u8 (g.r 2 / 16777216)] 255)
  have kL := Blk.new (((w.alloc (.cells (stA g) 29)).alloc (.cells z17 29)).alloc (.cells #[.int .u8 (g.r 2 % 256), .int .u8 (g.r 2 / 256 % 256), .int .u8 (g.r 2 / 65536 % 256), .int .u8 (g.r 2 / 16777216)] 255)) 255 #[.int .u8 (v % 256), .int .u8 (g.r 2 / 256 % 256), .int .u8 (g.r 2 / 65536 % 256), .int .u8 (g.r 2 / 16777216)]
  have kb := ((((Below.refl _ w).alloc (Nat.le_refl _) (.cells (stA g) 29)).alloc (by simp) (.cells z17 29)).alloc (by simp; omega) (.cells #[.int .u8 (g.r 2 % 256), .int .u8 (g.r 2 / 256 % 256), .int .u8 (g.r 2 / 65536 % 256), .int .u8 (g.r 2 / 16777216)] 255)).alloc (by simp; omega) (.cells #[.int .u8 (v % 256), .int .u8 (g.r 2 / 256 % 256), .int .u8 (g.r 2 / 65536 % 256), .int .u8 (g.r 2 / 16777216)] 255)
  simp only [World.size_alloc] at kR kL
  have hrow := row4 kL (by omega) (by omega) (by omega) (by omega)
  refine (word_any _ _ _ _ _ hrow).mono ?_
  rintro e w1 ⟨rfl, b1⟩
  replace kb := kb.trans (b1.mono (by simp; omega))
  replace kS := kS.below b1 kS.lt
  replace kR := kR.below b1 kR.lt
  clear kL hrow b1
  generalize hN : w.heap.size = N at *
  have q := kS.cell (i := 2) (v := .int .u32 (g.r 2)) rfl
  have p := kS.fr 2
  have hval : wordS [v % 256, g.r 2 / 256 % 256, g.r 2 / 65536 % 256, g.r 2 / 16777216] = setB (g.r 2) 0 v := by simp [wordS, setB]; omega
  rw [hval]
  have kE := kS.set 2 (.int .u32 (setB (g.r 2) 0 v))
  rw [stA_set2] at kE
  have kF := kR.other 2 (.int .u32 (setB (g.r 2) 0 v)) (show N + 1 ≠ N by omega)
  have kG := kF.row (stA (setr g 2 (setB (g.r 2) 0 v)))
  have kH := below_rowNew (kb.setCell (p := ⟨N, 2, none⟩) (by simp) (.int .u32 (setB (g.r 2) 0 v))) (N := N + 1) (by omega) (stA (setr g 2 (setB (g.r 2) 0 v)))
  clear kS kR kb hval
  have hs2 : (Tryz.prog.info? 29).map (·.size) = some (stA (setr g 2 (setB (g.r 2) 0 v))).size := sz17
  have hold : z17.size = (stA (setr g 2 (setB (g.r 2) 0 v))).size := rfl
  have hcell : (stA (setr g 2 (setB (g.r 2) 0 v))).all (·.oneCell') = true := stA_one _
  have hag : Value.agg (stA (setr g 2 (setB (g.r 2) 0 v))) = stV (setr g 2 (setB (g.r 2) 0 v)) := rfl
  generalize stA (setr g 2 (setB (g.r 2) 0 v)) = Z at *
  generalize z17 = Z0 at *
  go_wp2_with (first | with_reducible refine wpList_load_row rfl 29 _ rfl N rfl 29 _ (0, 0) _ kE.h Tryz.underlying29 rfl hs2 ?_ | with_reducible refine wpList_store_row rfl 29 _ _ rfl (N + 1) _ rfl rfl 29 _ kF.h hs2 hold hcell ?_)
  exact bodyPost_ret (v := Value.agg Z) (results_cell_row rfl _ _ (N + 1) 29 _ (0, 0) _ rfl kG.h Tryz.underlying29 rfl hs2) rfl ⟨by rw [hag], by rw [hN]; exact kH⟩
theorem SetReg8_3 (g : Gs) (h : g.ok) (i v : Int) (hi : -9223372036854775808 ≤ i ∧ i ≤ 9223372036854775807) (hv : 0 ≤ v ∧ v ≤ 4294967295) (e : i % 8 = 3) (w : World) : Calls Tryz.prog 260 #[stV g, .int .i64 i, .int .u32 v] w fun e w' => e = .returned (stV (setr g 3 (setB (g.r 3) 0 v))) ∧ Below w.heap.size w w' := by
  have hb : ∀ w, Calls Tryz.prog 271 #[.int .i64 i] w fun e w' => e = .returned (.tuple #[.int .i64 3, .int .i64 0]) ∧ w = w' := fun w => by
    have := byteOf_any i hi w
    rw [e] at this
    exact this
  have hr := h.r 3
  clear e
  go_enter Tryz.func260, Tryz.ntmps260
  go_wp2_with (first | (go_at_call 271; refine (hb _).mono ?_; rintro e w' ⟨rfl, rfl⟩) | (go_at_call 272; refine (bytes_any _ hr _).mono ?_; rintro e w' ⟨rfl, rfl⟩))
  have kS := (((Blk.new w 29 (stA g)).alloc (.cells z17 29)).alloc (.cells #[.int .u8 (g.r 3 % 256), .int .u8 (g.r 3 / 256 % 256), .int .u8 (g.r 3 / 65536 % 256), .int .u8 (g.r 3 / 16777216)] 255)).alloc (.cells #[.int .u8 (v % 256), .int .u8 (g.r 3 / 256 % 256), .int .u8 (g.r 3 / 65536 % 256), .int .u8 (g.r 3 / 16777216)] 255)
  have kR := ((Blk.new (w.alloc (.cells (stA g) 29)) 29 z17).alloc (.cells #[.int .u8 (g.r 3 % 256), .int .u8 (g.r 3 / 256 % 256), .int .u8 (g.r 3 / 65536 % 256), .int .u8 (g.r 3 / 16777216)] 255)).alloc (.cells #[.int .u8 (v % 256), .int .u8 (g.r 3 / 256 % 256), .int .u8 (g.r 3 / 65536 % 256), .int .u8 (g.r 3 / 16777216)] 255)
  have kL := Blk.new (((w.alloc (.cells (stA g) 29)).alloc (.cells z17 29)).alloc (.cells #[.int .u8 (g.r 3 % 256), .int .u8 (g.r 3 / 256 % 256), .int .u8 (g.r 3 / 65536 % 256), .int .u8 (g.r 3 / 16777216)] 255)) 255 #[.int .u8 (v % 256), .int .u8 (g.r 3 / 256 % 256), .int .u8 (g.r 3 / 65536 % 256), .int .u8 (g.r 3 / 16777216)]
  have kb := ((((Below.refl _ w).alloc (Nat.le_refl _) (.cells (stA g) 29)).alloc (by simp) (.cells z17 29)).alloc (by simp; omega) (.cells #[.int .u8 (g.r 3 % 256), .int .u8 (g.r 3 / 256 % 256), .int .u8 (g.r 3 / 65536 % 256), .int .u8 (g.r 3 / 16777216)] 255)).alloc (by simp; omega) (.cells #[.int .u8 (v % 256), .int .u8 (g.r 3 / 256 % 256), .int .u8 (g.r 3 / 65536 % 256), .int .u8 (g.r 3 / 16777216)] 255)
  simp only [World.size_alloc] at kR kL
  have hrow := row4 kL (by omega) (by omega) (by omega) (by omega)
  refine (word_any _ _ _ _ _ hrow).mono ?_
  rintro e w1 ⟨rfl, b1⟩
  replace kb := kb.trans (b1.mono (by simp; omega))
  replace kS := kS.below b1 kS.lt
  replace kR := kR.below b1 kR.lt
  clear kL hrow b1
  generalize hN : w.heap.size = N at *
  have q := kS.cell (i := 3) (v := .int .u32 (g.r 3)) rfl
  have p := kS.fr 3
  have hval : wordS [v % 256, g.r 3 / 256 % 256, g.r 3 / 65536 % 256, g.r 3 / 16777216] = setB (g.r 3) 0 v := by simp [wordS, setB]; omega
  rw [hval]
  have kE := kS.set 3 (.int .u32 (setB (g.r 3) 0 v))
  rw [stA_set3] at kE
  have kF := kR.other 3 (.int .u32 (setB (g.r 3) 0 v)) (show N + 1 ≠ N by omega)
  have kG := kF.row (stA (setr g 3 (setB (g.r 3) 0 v)))
  have kH := below_rowNew (kb.setCell (p := ⟨N, 3, none⟩) (by simp) (.int .u32 (setB (g.r 3) 0 v))) (N := N + 1) (by omega) (stA (setr g 3 (setB (g.r 3) 0 v)))
  clear kS kR kb hval
  have hs2 : (Tryz.prog.info? 29).map (·.size) = some (stA (setr g 3 (setB (g.r 3) 0 v))).size := sz17
  have hold : z17.size = (stA (setr g 3 (setB (g.r 3) 0 v))).size := rfl
  have hcell : (stA (setr g 3 (setB (g.r 3) 0 v))).all (·.oneCell') = true := stA_one _
  have hag : Value.agg (stA (setr g 3 (setB (g.r 3) 0 v))) = stV (setr g 3 (setB (g.r 3) 0 v)) := rfl
  generalize stA (setr g 3 (setB (g.r 3) 0 v)) = Z at *
  generalize z17 = Z0 at *
  go_wp2_with (first | with_reducible refine wpList_load_row rfl 29 _ rfl N rfl 29 _ (0, 0) _ kE.h Tryz.underlying29 rfl hs2 ?_ | with_reducible refine wpList_store_row rfl 29 _ _ rfl (N + 1) _ rfl rfl 29 _ kF.h hs2 hold hcell ?_)
  exact bodyPost_ret (v := Value.agg Z) (results_cell_row rfl _ _ (N + 1) 29 _ (0, 0) _ rfl kG.h Tryz.underlying29 rfl hs2) rfl ⟨by rw [hag], by rw [hN]; exact kH⟩
theorem SetReg8_4 (g : Gs) (h : g.ok) (i v : Int) (hi : -9223372036854775808 ≤ i ∧ i ≤ 9223372036854775807) (hv : 0 ≤ v ∧ v ≤ 4294967295) (e : i % 8 = 4) (w : World) : Calls Tryz.prog 260 #[stV g, .int .i64 i, .int .u32 v] w fun e w' => e = .returned (stV (setr g 0 (setB (g.r 0) 1 v))) ∧ Below w.heap.size w w' := by
  have hb : ∀ w, Calls Tryz.prog 271 #[.int .i64 i] w fun e w' => e = .returned (.tuple #[.int .i64 0, .int .i64 1]) ∧ w = w' := fun w => by
    have := byteOf_any i hi w
    rw [e] at this
    exact this
  have hr := h.r 0
  clear e
  go_enter Tryz.func260, Tryz.ntmps260
  go_wp2_with (first | (go_at_call 271; refine (hb _).mono ?_; rintro e w' ⟨rfl, rfl⟩) | (go_at_call 272; refine (bytes_any _ hr _).mono ?_; rintro e w' ⟨rfl, rfl⟩))
  have kS := (((Blk.new w 29 (stA g)).alloc (.cells z17 29)).alloc (.cells #[.int .u8 (g.r 0 % 256), .int .u8 (g.r 0 / 256 % 256), .int .u8 (g.r 0 / 65536 % 256), .int .u8 (g.r 0 / 16777216)] 255)).alloc (.cells #[.int .u8 (g.r 0 % 256), .int .u8 (v % 256), .int .u8 (g.r 0 / 65536 % 256), .int .u8 (g.r 0 / 16777216)] 255)
  have kR := ((Blk.new (w.alloc (.cells (stA g) 29)) 29 z17).alloc (.cells #[.int .u8 (g.r 0 % 256), .int .u8 (g.r 0 / 256 % 256), .int .u8 (g.r 0 / 65536 % 256), .int .u8 (g.r 0 / 16777216)] 255)).alloc (.cells #[.int .u8 (g.r 0 % 256), .int .u8 (v % 256), .int .u8 (g.r 0 / 65536 % 256), .int .u8 (g.r 0 / 16777216)] 255)
  have kL := Blk.new (((w.alloc (.cells (stA g) 29)).alloc (.cells z17 29)).alloc (.cells #[.int .u8 (g.r 0 % 256), .int .u8 (g.r 0 / 256 % 256), .int .u8 (g.r 0 / 65536 % 256), .int .u8 (g.r 0 / 16777216)] 255)) 255 #[.int .u8 (g.r 0 % 256), .int .u8 (v % 256), .int .u8 (g.r 0 / 65536 % 256), .int .u8 (g.r 0 / 16777216)]
  have kb := ((((Below.refl _ w).alloc (Nat.le_refl _) (.cells (stA g) 29)).alloc (by simp) (.cells z17 29)).alloc (by simp; omega) (.cells #[.int .u8 (g.r 0 % 256), .int .u8 (g.r 0 / 256 % 256), .int .u8 (g.r 0 / 65536 % 256), .int .u8 (g.r 0 / 16777216)] 255)).alloc (by simp; omega) (.cells #[.int .u8 (g.r 0 % 256), .int .u8 (v % 256), .int .u8 (g.r 0 / 65536 % 256), .int .u8 (g.r 0 / 16777216)] 255)
  simp only [World.size_alloc] at kR kL
  have hrow := row4 kL (by omega) (by omega) (by omega) (by omega)
  refine (word_any _ _ _ _ _ hrow).mono ?_
  rintro e w1 ⟨rfl, b1⟩
  replace kb := kb.trans (b1.mono (by simp; omega))
  replace kS := kS.below b1 kS.lt
  replace kR := kR.below b1 kR.lt
  clear kL hrow b1
  generalize hN : w.heap.size = N at *
  have q := kS.cell (i := 0) (v := .int .u32 (g.r 0)) rfl
  have p := kS.fr 0
  have hval : wordS [g.r 0 % 256, v % 256, g.r 0 / 65536 % 256, g.r 0 / 16777216] = setB (g.r 0) 1 v := by simp [wordS, setB]; omega
  rw [hval]
  have kE := kS.set 0 (.int .u32 (setB (g.r 0) 1 v))
  rw [stA_set0] at kE
  have kF := kR.other 0 (.int .u32 (setB (g.r 0) 1 v)) (show N + 1 ≠ N by omega)
  have kG := kF.row (stA (setr g 0 (setB (g.r 0) 1 v)))
  have kH := below_rowNew (kb.setCell (p := ⟨N, 0, none⟩) (by simp) (.int .u32 (setB (g.r 0) 1 v))) (N := N + 1) (by omega) (stA (setr g 0 (setB (g.r 0) 1 v)))
  clear kS kR kb hval
  have hs2 : (Tryz.prog.info? 29).map (·.size) = some (stA (setr g 0 (setB (g.r 0) 1 v))).size := sz17
  have hold : z17.size = (stA (setr g 0 (setB (g.r 0) 1 v))).size := rfl
  have hcell : (stA (setr g 0 (setB (g.r 0) 1 v))).all (·.oneCell') = true := stA_one _
  have hag : Value.agg (stA (setr g 0 (setB (g.r 0) 1 v))) = stV (setr g 0 (setB (g.r 0) 1 v)) := rfl
  generalize stA (setr g 0 (setB (g.r 0) 1 v)) = Z at *
  generalize z17 = Z0 at *
  go_wp2_with (first | with_reducible refine wpList_load_row rfl 29 _ rfl N rfl 29 _ (0, 0) _ kE.h Tryz.underlying29 rfl hs2 ?_ | with_reducible refine wpList_store_row rfl 29 _ _ rfl (N + 1) _ rfl rfl 29 _ kF.h hs2 hold hcell ?_)
  exact bodyPost_ret (v := Value.agg Z) (results_cell_row rfl _ _ (N + 1) 29 _ (0, 0) _ rfl kG.h Tryz.underlying29 rfl hs2) rfl ⟨by rw [hag], by rw [hN]; exact kH⟩
theorem SetReg8_5 (g : Gs) (h : g.ok) (i v : Int) (hi : -9223372036854775808 ≤ i ∧ i ≤ 9223372036854775807) (hv : 0 ≤ v ∧ v ≤ 4294967295) (e : i % 8 = 5) (w : World) : Calls Tryz.prog 260 #[stV g, .int .i64 i, .int .u32 v] w fun e w' => e = .returned (stV (setr g 1 (setB (g.r 1) 1 v))) ∧ Below w.heap.size w w' := by
  have hb : ∀ w, Calls Tryz.prog 271 #[.int .i64 i] w fun e w' => e = .returned (.tuple #[.int .i64 1, .int .i64 1]) ∧ w = w' := fun w => by
    have := byteOf_any i hi w
    rw [e] at this
    exact this
  have hr := h.r 1
  clear e
  go_enter Tryz.func260, Tryz.ntmps260
  go_wp2_with (first | (go_at_call 271; refine (hb _).mono ?_; rintro e w' ⟨rfl, rfl⟩) | (go_at_call 272; refine (bytes_any _ hr _).mono ?_; rintro e w' ⟨rfl, rfl⟩))
  have kS := (((Blk.new w 29 (stA g)).alloc (.cells z17 29)).alloc (.cells #[.int .u8 (g.r 1 % 256), .int .u8 (g.r 1 / 256 % 256), .int .u8 (g.r 1 / 65536 % 256), .int .u8 (g.r 1 / 16777216)] 255)).alloc (.cells #[.int .u8 (g.r 1 % 256), .int .u8 (v % 256), .int .u8 (g.r 1 / 65536 % 256), .int .u8 (g.r 1 / 16777216)] 255)
  have kR := ((Blk.new (w.alloc (.cells (stA g) 29)) 29 z17).alloc (.cells #[.int .u8 (g.r 1 % 256), .int .u8 (g.r 1 / 256 % 256), .int .u8 (g.r 1 / 65536 % 256), .int .u8 (g.r 1 / 16777216)] 255)).alloc (.cells #[.int .u8 (g.r 1 % 256), .int .u8 (v % 256), .int .u8 (g.r 1 / 65536 % 256), .int .u8 (g.r 1 / 16777216)] 255)
  have kL := Blk.new (((w.alloc (.cells (stA g) 29)).alloc (.cells z17 29)).alloc (.cells #[.int .u8 (g.r 1 % 256), .int .u8 (g.r 1 / 256 % 256), .int .u8 (g.r 1 / 65536 % 256), .int .u8 (g.r 1 / 16777216)] 255)) 255 #[.int .u8 (g.r 1 % 256), .int .u8 (v % 256), .int .u8 (g.r 1 / 65536 % 256), .int .u8 (g.r 1 / 16777216)]
  have kb := ((((Below.refl _ w).alloc (Nat.le_refl _) (.cells (stA g) 29)).alloc (by simp) (.cells z17 29)).alloc (by simp; omega) (.cells #[.int .u8 (g.r 1 % 256), .int .u8 (g.r 1 / 256 % 256), .int .u8 (g.r 1 / 65536 % 256), .int .u8 (g.r 1 / 16777216)] 255)).alloc (by simp; omega) (.cells #[.int .u8 (g.r 1 % 256), .int .u8 (v % 256), .int .u8 (g.r 1 / 65536 % 256), .int .u8 (g.r 1 / 16777216)] 255)
  simp only [World.size_alloc] at kR kL
  have hrow := row4 kL (by omega) (by omega) (by omega) (by omega)
  refine (word_any _ _ _ _ _ hrow).mono ?_
  rintro e w1 ⟨rfl, b1⟩
  replace kb := kb.trans (b1.mono (by simp; omega))
  replace kS := kS.below b1 kS.lt
  replace kR := kR.below b1 kR.lt
  clear kL hrow b1
  generalize hN : w.heap.size = N at *
  have q := kS.cell (i := 1) (v := .int .u32 (g.r 1)) rfl
  have p := kS.fr 1
  have hval : wordS [g.r 1 % 256, v % 256, g.r 1 / 65536 % 256, g.r 1 / 16777216] = setB (g.r 1) 1 v := by simp [wordS, setB]; omega
  rw [hval]
  have kE := kS.set 1 (.int .u32 (setB (g.r 1) 1 v))
  rw [stA_set1] at kE
  have kF := kR.other 1 (.int .u32 (setB (g.r 1) 1 v)) (show N + 1 ≠ N by omega)
  have kG := kF.row (stA (setr g 1 (setB (g.r 1) 1 v)))
  have kH := below_rowNew (kb.setCell (p := ⟨N, 1, none⟩) (by simp) (.int .u32 (setB (g.r 1) 1 v))) (N := N + 1) (by omega) (stA (setr g 1 (setB (g.r 1) 1 v)))
  clear kS kR kb hval
  have hs2 : (Tryz.prog.info? 29).map (·.size) = some (stA (setr g 1 (setB (g.r 1) 1 v))).size := sz17
  have hold : z17.size = (stA (setr g 1 (setB (g.r 1) 1 v))).size := rfl
  have hcell : (stA (setr g 1 (setB (g.r 1) 1 v))).all (·.oneCell') = true := stA_one _
  have hag : Value.agg (stA (setr g 1 (setB (g.r 1) 1 v))) = stV (setr g 1 (setB (g.r 1) 1 v)) := rfl
  generalize stA (setr g 1 (setB (g.r 1) 1 v)) = Z at *
  generalize z17 = Z0 at *
  go_wp2_with (first | with_reducible refine wpList_load_row rfl 29 _ rfl N rfl 29 _ (0, 0) _ kE.h Tryz.underlying29 rfl hs2 ?_ | with_reducible refine wpList_store_row rfl 29 _ _ rfl (N + 1) _ rfl rfl 29 _ kF.h hs2 hold hcell ?_)
  exact bodyPost_ret (v := Value.agg Z) (results_cell_row rfl _ _ (N + 1) 29 _ (0, 0) _ rfl kG.h Tryz.underlying29 rfl hs2) rfl ⟨by rw [hag], by rw [hN]; exact kH⟩
theorem SetReg8_6 (g : Gs) (h : g.ok) (i v : Int) (hi : -9223372036854775808 ≤ i ∧ i ≤ 9223372036854775807) (hv : 0 ≤ v ∧ v ≤ 4294967295) (e : i % 8 = 6) (w : World) : Calls Tryz.prog 260 #[stV g, .int .i64 i, .int .u32 v] w fun e w' => e = .returned (stV (setr g 2 (setB (g.r 2) 1 v))) ∧ Below w.heap.size w w' := by
  have hb : ∀ w, Calls Tryz.prog 271 #[.int .i64 i] w fun e w' => e = .returned (.tuple #[.int .i64 2, .int .i64 1]) ∧ w = w' := fun w => by
    have := byteOf_any i hi w
    rw [e] at this
    exact this
  have hr := h.r 2
  clear e
  go_enter Tryz.func260, Tryz.ntmps260
  go_wp2_with (first | (go_at_call 271; refine (hb _).mono ?_; rintro e w' ⟨rfl, rfl⟩) | (go_at_call 272; refine (bytes_any _ hr _).mono ?_; rintro e w' ⟨rfl, rfl⟩))
  have kS := (((Blk.new w 29 (stA g)).alloc (.cells z17 29)).alloc (.cells #[.int .u8 (g.r 2 % 256), .int .u8 (g.r 2 / 256 % 256), .int .u8 (g.r 2 / 65536 % 256), .int .u8 (g.r 2 / 16777216)] 255)).alloc (.cells #[.int .u8 (g.r 2 % 256), .int .u8 (v % 256), .int .u8 (g.r 2 / 65536 % 256), .int .u8 (g.r 2 / 16777216)] 255)
  have kR := ((Blk.new (w.alloc (.cells (stA g) 29)) 29 z17).alloc (.cells #[.int .u8 (g.r 2 % 256), .int .u8 (g.r 2 / 256 % 256), .int .u8 (g.r 2 / 65536 % 256), .int .u8 (g.r 2 / 16777216)] 255)).alloc (.cells #[.int .u8 (g.r 2 % 256), .int .u8 (v % 256), .int .u8 (g.r 2 / 65536 % 256), .int .u8 (g.r 2 / 16777216)] 255)
  have kL := Blk.new (((w.alloc (.cells (stA g) 29)).alloc (.cells z17 29)).alloc (.cells #[.int .u8 (g.r 2 % 256), .int .u8 (g.r 2 / 256 % 256), .int .u8 (g.r 2 / 65536 % 256), .int .u8 (g.r 2 / 16777216)] 255)) 255 #[.int .u8 (g.r 2 % 256), .int .u8 (v % 256), .int .u8 (g.r 2 / 65536 % 256), .int .u8 (g.r 2 / 16777216)]
  have kb := ((((Below.refl _ w).alloc (Nat.le_refl _) (.cells (stA g) 29)).alloc (by simp) (.cells z17 29)).alloc (by simp; omega) (.cells #[.int .u8 (g.r 2 % 256), .int .u8 (g.r 2 / 256 % 256), .int .u8 (g.r 2 / 65536 % 256), .int .u8 (g.r 2 / 16777216)] 255)).alloc (by simp; omega) (.cells #[.int .u8 (g.r 2 % 256), .int .u8 (v % 256), .int .u8 (g.r 2 / 65536 % 256), .int .u8 (g.r 2 / 16777216)] 255)
  simp only [World.size_alloc] at kR kL
  have hrow := row4 kL (by omega) (by omega) (by omega) (by omega)
  refine (word_any _ _ _ _ _ hrow).mono ?_
  rintro e w1 ⟨rfl, b1⟩
  replace kb := kb.trans (b1.mono (by simp; omega))
  replace kS := kS.below b1 kS.lt
  replace kR := kR.below b1 kR.lt
  clear kL hrow b1
  generalize hN : w.heap.size = N at *
  have q := kS.cell (i := 2) (v := .int .u32 (g.r 2)) rfl
  have p := kS.fr 2
  have hval : wordS [g.r 2 % 256, v % 256, g.r 2 / 65536 % 256, g.r 2 / 16777216] = setB (g.r 2) 1 v := by simp [wordS, setB]; omega
  rw [hval]
  have kE := kS.set 2 (.int .u32 (setB (g.r 2) 1 v))
  rw [stA_set2] at kE
  have kF := kR.other 2 (.int .u32 (setB (g.r 2) 1 v)) (show N + 1 ≠ N by omega)
  have kG := kF.row (stA (setr g 2 (setB (g.r 2) 1 v)))
  have kH := below_rowNew (kb.setCell (p := ⟨N, 2, none⟩) (by simp) (.int .u32 (setB (g.r 2) 1 v))) (N := N + 1) (by omega) (stA (setr g 2 (setB (g.r 2) 1 v)))
  clear kS kR kb hval
  have hs2 : (Tryz.prog.info? 29).map (·.size) = some (stA (setr g 2 (setB (g.r 2) 1 v))).size := sz17
  have hold : z17.size = (stA (setr g 2 (setB (g.r 2) 1 v))).size := rfl
  have hcell : (stA (setr g 2 (setB (g.r 2) 1 v))).all (·.oneCell') = true := stA_one _
  have hag : Value.agg (stA (setr g 2 (setB (g.r 2) 1 v))) = stV (setr g 2 (setB (g.r 2) 1 v)) := rfl
  generalize stA (setr g 2 (setB (g.r 2) 1 v)) = Z at *
  generalize z17 = Z0 at *
  go_wp2_with (first | with_reducible refine wpList_load_row rfl 29 _ rfl N rfl 29 _ (0, 0) _ kE.h Tryz.underlying29 rfl hs2 ?_ | with_reducible refine wpList_store_row rfl 29 _ _ rfl (N + 1) _ rfl rfl 29 _ kF.h hs2 hold hcell ?_)
  exact bodyPost_ret (v := Value.agg Z) (results_cell_row rfl _ _ (N + 1) 29 _ (0, 0) _ rfl kG.h Tryz.underlying29 rfl hs2) rfl ⟨by rw [hag], by rw [hN]; exact kH⟩
theorem SetReg8_7 (g : Gs) (h : g.ok) (i v : Int) (hi : -9223372036854775808 ≤ i ∧ i ≤ 9223372036854775807) (hv : 0 ≤ v ∧ v ≤ 4294967295) (e : i % 8 = 7) (w : World) : Calls Tryz.prog 260 #[stV g, .int .i64 i, .int .u32 v] w fun e w' => e = .returned (stV (setr g 3 (setB (g.r 3) 1 v))) ∧ Below w.heap.size w w' := by
  have hb : ∀ w, Calls Tryz.prog 271 #[.int .i64 i] w fun e w' => e = .returned (.tuple #[.int .i64 3, .int .i64 1]) ∧ w = w' := fun w => by
    have := byteOf_any i hi w
    rw [e] at this
    exact this
  have hr := h.r 3
  clear e
  go_enter Tryz.func260, Tryz.ntmps260
  go_wp2_with (first | (go_at_call 271; refine (hb _).mono ?_; rintro e w' ⟨rfl, rfl⟩) | (go_at_call 272; refine (bytes_any _ hr _).mono ?_; rintro e w' ⟨rfl, rfl⟩))
  have kS := (((Blk.new w 29 (stA g)).alloc (.cells z17 29)).alloc (.cells #[.int .u8 (g.r 3 % 256), .int .u8 (g.r 3 / 256 % 256), .int .u8 (g.r 3 / 65536 % 256), .int .u8 (g.r 3 / 16777216)] 255)).alloc (.cells #[.int .u8 (g.r 3 % 256), .int .u8 (v % 256), .int .u8 (g.r 3 / 65536 % 256), .int .u8 (g.r 3 / 16777216)] 255)
  have kR := ((Blk.new (w.alloc (.cells (stA g) 29)) 29 z17).alloc (.cells #[.int .u8 (g.r 3 % 256), .int .u8 (g.r 3 / 256 % 256), .int .u8 (g.r 3 / 65536 % 256), .int .u8 (g.r 3 / 16777216)] 255)).alloc (.cells #[.int .u8 (g.r 3 % 256), .int .u8 (v % 256), .int .u8 (g.r 3 / 65536 % 256), .int .u8 (g.r 3 / 16777216)] 255)
  have kL := Blk.new (((w.alloc (.cells (stA g) 29)).alloc (.cells z17 29)).alloc (.cells #[.int .u8 (g.r 3 % 256), .int .u8 (g.r 3 / 256 % 256), .int .u8 (g.r 3 / 65536 % 256), .int .u8 (g.r 3 / 16777216)] 255)) 255 #[.int .u8 (g.r 3 % 256), .int .u8 (v % 256), .int .u8 (g.r 3 / 65536 % 256), .int .u8 (g.r 3 / 16777216)]
  have kb := ((((Below.refl _ w).alloc (Nat.le_refl _) (.cells (stA g) 29)).alloc (by simp) (.cells z17 29)).alloc (by simp; omega) (.cells #[.int .u8 (g.r 3 % 256), .int .u8 (g.r 3 / 256 % 256), .int .u8 (g.r 3 / 65536 % 256), .int .u8 (g.r 3 / 16777216)] 255)).alloc (by simp; omega) (.cells #[.int .u8 (g.r 3 % 256), .int .u8 (v % 256), .int .u8 (g.r 3 / 65536 % 256), .int .u8 (g.r 3 / 16777216)] 255)
  simp only [World.size_alloc] at kR kL
  have hrow := row4 kL (by omega) (by omega) (by omega) (by omega)
  refine (word_any _ _ _ _ _ hrow).mono ?_
  rintro e w1 ⟨rfl, b1⟩
  replace kb := kb.trans (b1.mono (by simp; omega))
  replace kS := kS.below b1 kS.lt
  replace kR := kR.below b1 kR.lt
  clear kL hrow b1
  generalize hN : w.heap.size = N at *
  have q := kS.cell (i := 3) (v := .int .u32 (g.r 3)) rfl
  have p := kS.fr 3
  have hval : wordS [g.r 3 % 256, v % 256, g.r 3 / 65536 % 256, g.r 3 / 16777216] = setB (g.r 3) 1 v := by simp [wordS, setB]; omega
  rw [hval]
  have kE := kS.set 3 (.int .u32 (setB (g.r 3) 1 v))
  rw [stA_set3] at kE
  have kF := kR.other 3 (.int .u32 (setB (g.r 3) 1 v)) (show N + 1 ≠ N by omega)
  have kG := kF.row (stA (setr g 3 (setB (g.r 3) 1 v)))
  have kH := below_rowNew (kb.setCell (p := ⟨N, 3, none⟩) (by simp) (.int .u32 (setB (g.r 3) 1 v))) (N := N + 1) (by omega) (stA (setr g 3 (setB (g.r 3) 1 v)))
  clear kS kR kb hval
  have hs2 : (Tryz.prog.info? 29).map (·.size) = some (stA (setr g 3 (setB (g.r 3) 1 v))).size := sz17
  have hold : z17.size = (stA (setr g 3 (setB (g.r 3) 1 v))).size := rfl
  have hcell : (stA (setr g 3 (setB (g.r 3) 1 v))).all (·.oneCell') = true := stA_one _
  have hag : Value.agg (stA (setr g 3 (setB (g.r 3) 1 v))) = stV (setr g 3 (setB (g.r 3) 1 v)) := rfl
  generalize stA (setr g 3 (setB (g.r 3) 1 v)) = Z at *
  generalize z17 = Z0 at *
  go_wp2_with (first | with_reducible refine wpList_load_row rfl 29 _ rfl N rfl 29 _ (0, 0) _ kE.h Tryz.underlying29 rfl hs2 ?_ | with_reducible refine wpList_store_row rfl 29 _ _ rfl (N + 1) _ rfl rfl 29 _ kF.h hs2 hold hcell ?_)
  exact bodyPost_ret (v := Value.agg Z) (results_cell_row rfl _ _ (N + 1) 29 _ (0, 0) _ rfl kG.h Tryz.underlying29 rfl hs2) rfl ⟨by rw [hag], by rw [hN]; exact kH⟩
end Go.Proofs.YtcdoidnfdkodoaaGreatDoor
namespace Go.Proofs.YtcdoidnfdkodoaaGreatDoor
open Go.RowKit
set_option linter.unusedVariables false
set_option linter.unusedSimpArgs false
set_option linter.unusedSectionVars false
def setb (g : Gs) (j : Nat) (v : Int) : Gs := setr g (j % 4) (setB (g.r (j % 4)) (j / 4) v)
theorem SetReg8_n (g : Gs) (h : g.ok) (j : Nat) (hj : j < 8) (v : Int) (hv : 0 ≤ v ∧ v ≤ 4294967295) (w : World) : Calls Tryz.prog 260 #[stV g, .int .i64 (j : Int), .int .u32 v] w fun e w' => e = .returned (stV (setb g j v)) ∧ Below w.heap.size w w' := by
  rcases (by omega : j = 0 ∨ j = 1 ∨ j = 2 ∨ j = 3 ∨ j = 4 ∨ j = 5 ∨ j = 6 ∨ j = 7) with rfl | rfl | rfl | rfl | rfl | rfl | rfl | rfl
  · exact SetReg8_0 g h _ v (by decide) hv (by decide) w
  · exact SetReg8_1 g h _ v (by decide) hv (by decide) w
  · exact SetReg8_2 g h _ v (by decide) hv (by decide) w
  · exact SetReg8_3 g h _ v (by decide) hv (by decide) w
  · exact SetReg8_4 g h _ v (by decide) hv (by decide) w
  · exact SetReg8_5 g h _ v (by decide) hv (by decide) w
  · exact SetReg8_6 g h _ v (by decide) hv (by decide) w
  · exact SetReg8_7 g h _ v (by decide) hv (by decide) w
set_option maxRecDepth 20000 in
theorem withReg1 (g : Gs) (h : g.ok) (j : Nat) (hj : j < 8) (v : Int) (hv : 0 ≤ v ∧ v ≤ 4294967295) (w : World) : Calls Tryz.prog 249 #[stV g, .int .i64 j, .int .i64 1, .int .u32 v] w fun e w' => e = .returned (stV (setb g j v)) ∧ Below w.heap.size w w' := by
  have b0 := ((Below.refl w.heap.size w).alloc (Nat.le_refl _) (.cells (stA g) 29)).alloc (by simp) (.cells z17 29)
  have kS := (Blk.new w 29 (stA g)).alloc (.cells z17 29)
  have kZ := Blk.new (w.alloc (.cells (stA g) 29)) 29 z17
  rw [World.size_alloc] at kZ
  have hn : ((j : Int) == -1) = false := by simp
  have hn2 : ((j : Int) = -1) = False := eq_false (by omega)
  have hR := Lib.hid (fun W => SetReg8_n g h j hj v hv W)
  have hs := kZ.lt
  generalize setb g j v = G at *
  go_enter Tryz.func249, Tryz.ntmps249
  go_wp2_with (first | (with_reducible refine load_st rfl _ rfl w.heap.size (stA g) rfl kS rfl ?_) | ((with_reducible refine (hR.out _).mono ?_); rintro e w1 ⟨rfl, b1⟩; have kZ1 := kZ.below b1 kZ.lt; have b01 := b0.trans (b1.mono b0.size)) | ((with_reducible refine store_st rfl _ _ rfl (w.heap.size + 1) (stA G) z17 rfl rfl kZ1 rfl rfl (stA_all _) ?_); intro w3 kR k3 s3))
  have b3 := ((But.of b01 [w.heap.size + 1]).trans (k3.mono b01.size (fun k hk => .inl hk))).below (Nat.le_refl _) (by simp)
  exact bodyPost_ret (v := stV G) (results_cell_row rfl _ _ (w.heap.size + 1) 29 (stA G) (0, 0) _ rfl kR.h Tryz.underlying29 rfl szS) rfl ⟨rfl, b3⟩
set_option maxRecDepth 20000 in
theorem written_reg1 (p : Value) (g : Gs) (h : g.ok) (o : On) (j : Nat) (hj : j < 8) (hk : o.k = 1) (hr : o.r = j) (v : Int) (hv : 0 ≤ v ∧ v ≤ 4294967295) (w : World) : Calls Tryz.prog 227 #[p, stV g, opV o, .int .i64 1, .int .u32 v] w fun e w' => e = .returned (stV (setb g j v)) ∧ Below w.heap.size w w' := by
  obtain ⟨kS, kO, b0⟩ := stO w g o
  have kZ := Blk.new ((w.alloc (.cells (stA g) 29)).alloc (.cells (op6 o) 31)) 29 z17
  replace kS := kS.alloc (.cells z17 29)
  replace kO := kO.alloc (.cells z17 29)
  replace b0 := b0.alloc (by simp; omega) (.cells z17 29)
  simp only [World.size_alloc] at kZ
  have c0 := kO.cell (i := 0) (v := .int .i64 o.k) rfl
  have c1 := kO.cell (i := 1) (v := .int .i64 o.r) rfl
  rw [hk] at c0
  rw [hr] at c1
  have hW := Lib.hid (fun W => withReg1 g h j hj v hv W)
  have hs := kZ.lt
  clear hr
  generalize setb g j v = G at *
  go_enter Tryz.func227, Tryz.ntmps227
  go_wp2_with (first | (with_reducible refine load_st rfl _ rfl w.heap.size (stA g) rfl kS rfl ?_) | ((with_reducible refine (hW.out _).mono ?_); rintro e w1 ⟨rfl, b1⟩; have kZ1 := kZ.below b1 kZ.lt; have b01 := b0.trans (b1.mono b0.size)) | ((with_reducible refine store_st rfl _ _ rfl (w.heap.size + 1 + 1) (stA G) z17 rfl rfl kZ1 rfl rfl (stA_all _) ?_); intro w3 kR k3 s3))
  have b3 := ((But.of b01 [w.heap.size + 1 + 1]).trans (k3.mono b01.size (fun k hk => .inl hk))).below (Nat.le_refl _) (by simp; omega)
  exact bodyPost_ret (v := stV G) (results_cell_row rfl _ _ (w.heap.size + 1 + 1) 29 (stA G) (0, 0) _ rfl kR.h Tryz.underlying29 rfl szS) rfl ⟨rfl, b3⟩
theorem Write_reg1 {B : Nat} {m : Mm} {w : World} (hm : PAt w B m) (g : Gs) (h : g.ok) (o : On) (v : Int) (hv : 0 ≤ v ∧ v ≤ 4294967295) (j : Nat) (hj : j < 8) (hk : o.k = 1) (hr : o.r = j) :
    Calls Tryz.prog 196 #[mp B, stV g, opV o, .int .i64 1, .int .u32 v] w fun e w' => e = .returned (.tuple #[stV (setb g j v), fltV 0 0 0 0, .bool true]) ∧ PAt w' B m ∧ But [B] w.heap.size w w' :=
  oWrite_yes hm g o 1 v (setb g j v) m (fun W hW => by rw [show numO 1 = 1 from rfl]; exact (written_reg1 (mp B) g h o j hj hk hr v hv W).mono fun e w' hh => ⟨hh.1, hW.below hh.2 hW.lt, But.of hh.2 _⟩)
end Go.Proofs.YtcdoidnfdkodoaaGreatDoor
namespace Go.Proofs.YtcdoidnfdkodoaaGreatDoor
open Go.RowKit
set_option linter.unusedVariables false
set_option linter.unusedSimpArgs false
set_option linter.unusedSectionVars false
abbrev guA (B : Nat) (g : Gs) : Array Value := #[mp B, .int .u32 (g.r 0), .int .u32 (g.r 1), .int .u32 (g.r 2), .int .u32 (g.r 3), .int .u32 (g.r 4), .int .u32 (g.r 5), .int .u32 (g.r 6), .int .u32 (g.r 7), .int .u32 g.pc,
  .bool (g.f 0), .bool (g.f 1), .bool (g.f 2), .bool (g.f 3), .bool (g.f 4), .bool (g.f 5), .bool g.df, .int .u64 g.x]
structure GuAt (w : World) (G B : Nat) (g : Gs) (m : Mm) : Prop where
  p : PAt w B m
  c : Blk w G 121 (guA B g)
  ne : ¬ B = G
section
variable {w w' : World} {G B n : Nat} {g g' : Gs} {m m' : Mm}
theorem GuAt.below (h : GuAt w G B g m) (b : Below w.heap.size w w') : GuAt w' G B g m := ⟨h.p.below b h.p.lt, h.c.below b h.c.lt, h.ne⟩
theorem GuAt.drew (h : GuAt w G B g m) : GuAt w.drew G B g m := ⟨h.p.drew, h.c.drew, h.ne⟩
theorem GuAt.but {S : List Nat} (h : GuAt w G B g m) (b : But S w.heap.size w w') (h1 : B ∉ S) (h2 : G ∉ S) : GuAt w' G B g m := ⟨h.p.but b h.p.lt h1, h.c.but b h.c.lt h2, h.ne⟩
theorem GuAt.mem (h : GuAt w G B g m) (p : PAt w' B m') (b : But [B] w.heap.size w w') : GuAt w' G B g m' := ⟨p, h.c.but b h.c.lt (by simpa using fun e => h.ne e.symm), h.ne⟩
theorem GuAt.st (h : GuAt w G B g m) : w.rangeAt G 1 (stA g).toList := by
  intro j v hv
  have hj : j < 17 := by have := (List.getElem?_eq_some_iff.1 hv).1; simpa using this
  refine h.c.cell ?_
  rcases (by omega : j = 0 ∨ j = 1 ∨ j = 2 ∨ j = 3 ∨ j = 4 ∨ j = 5 ∨ j = 6 ∨ j = 7 ∨ j = 8 ∨ j = 9 ∨ j = 10 ∨ j = 11 ∨ j = 12 ∨ j = 13 ∨ j = 14 ∨ j = 15 ∨ j = 16) with rfl | rfl | rfl | rfl | rfl | rfl | rfl | rfl | rfl | rfl | rfl | rfl | rfl | rfl | rfl | rfl | rfl <;> simpa using hv
theorem GuAt.fl (h : GuAt w G B g m) : w.rangeAt G 10 [.bool (g.f 0), .bool (g.f 1), .bool (g.f 2), .bool (g.f 3), .bool (g.f 4), .bool (g.f 5)] := by
  intro j v hv
  have hj : j < 6 := by have := (List.getElem?_eq_some_iff.1 hv).1; simpa using this
  refine h.c.cell ?_
  rcases (by omega : j = 0 ∨ j = 1 ∨ j = 2 ∨ j = 3 ∨ j = 4 ∨ j = 5) with rfl | rfl | rfl | rfl | rfl | rfl <;> simpa using hv
theorem Blk.thereT {W : World} {K : Nat} {t : TypeId} {cs : Array Value} (k : Blk W K t cs) (o n : Nat) (h : o + n ≤ cs.size) : W.there K o n := by
  intro i hi
  refine ⟨?_, k.fr _⟩
  rw [k.cell (v := cs[o + i]'(by omega)) (by simp)]
  rfl
end
theorem run_load_mid {P : Program} {ev : Operand → Value} {o : Oper} {w : World} {ty : TypeId} {x : Operand} (ho : o.op = .load ty x) {b off : Nat} (hx : ev x = .pointer (some ⟨b, off, none⟩)) (cs : List Value) (d : TypeDesc)
    (hc : w.rangeAt b off cs) (hu : P.underlying ty = some d) (hd : d.isRow = true) (hi : (P.info? ty).map (·.size) = some cs.length) :
    (execOp ev o).run P w = .ok (.value (.agg cs.toArray)) w := by
  unfold execOp
  simp only [ho, hx, run_loadAt_mid w b off ty cs d hc hu hd hi, Sem.run_bind, Sem.run_pure, Result.andThen_ok]
theorem run_load_gst {ev : Operand → Value} {o : Oper} {w : World} {x : Operand} (ho : o.op = .load 29 x) {G B : Nat} {g : Gs} {m : Mm} (hx : ev x = .pointer (some ⟨G, 1, none⟩)) (h : GuAt w G B g m) :
    (execOp ev o).run Tryz.prog w = .ok (.value (stV g)) w := by
  have := run_load_mid (P := Tryz.prog) ho hx (stA g).toList _ h.st Tryz.underlying29 rfl (by kernel_rfl)
  simpa using this
theorem run_load_gfl {ev : Operand → Value} {o : Oper} {w : World} {x : Operand} (ho : o.op = .load 26 x) {G B : Nat} {g : Gs} {m : Mm} (hx : ev x = .pointer (some ⟨G, 10, none⟩)) (h : GuAt w G B g m) :
    (execOp ev o).run Tryz.prog w = .ok (.value (.agg #[.bool (g.f 0), .bool (g.f 1), .bool (g.f 2), .bool (g.f 3), .bool (g.f 4), .bool (g.f 5)])) w := by
  have := run_load_mid (P := Tryz.prog) ho hx _ _ h.fl Tryz.underlying26 rfl (by kernel_rfl)
  simpa using this
section
variable {ops : Array Oper} {rest : List Oper} {op : Oper} {a : Act} {w : World} {Q : Exit → Act → World → Prop} {G B : Nat} {g : Gs} {m : Mm}
theorem load_gst (hgd : op.guard = none) (x : Operand) (ho : op.op = .load 29 x) (hx : a.eval x = .pointer (some ⟨G, 1, none⟩)) (h : GuAt w G B g m)
    (k : wpList Tryz.prog ops Q rest (a.put op.dst (stV g)) w) : wpList Tryz.prog ops Q (op :: rest) a w :=
  wpList_load_mid hgd 29 x ho G 1 hx (stA g).toList _ h.st Tryz.underlying29 rfl (by kernel_rfl) (by simpa using k)
theorem stA_oneT (g : Gs) : (stA g).all (·.oneCell') = true := by simp [Value.oneCell']
theorem store_gst (hgd : op.guard = none) (x y : Operand) (ho : op.op = .store 29 x y) (g' : Gs) (hx : a.eval x = .pointer (some ⟨G, 1, none⟩)) (hy : a.eval y = stV g') (h : GuAt w G B g m)
    (k : ∀ W, GuAt W G B g' m → But [G] w.heap.size w W → W.heap.size = w.heap.size → wpList Tryz.prog ops Q rest (a.put op.dst undef) W) : wpList Tryz.prog ops Q (op :: rest) a w := by
  refine wpList_store_mid hgd 29 x y ho G 1 (stA g') hx hy (h.c.thereT 1 17 (by simp)) (by kernel_rfl) (stA_oneT g') ?_
  have hb : But [G] w.heap.size w (w.setCells G 1 (stA g').toList) := by
    exact (((((((((((((((((But.refl [G] w.heap.size w).setCell (p := ⟨G, 1, none⟩) (by simp) _).setCell (p := ⟨G, 2, none⟩) (by simp) _).setCell (p := ⟨G, 3, none⟩) (by simp) _).setCell (p := ⟨G, 4, none⟩) (by simp) _).setCell (p := ⟨G, 5, none⟩) (by simp) _).setCell (p := ⟨G, 6, none⟩) (by simp) _).setCell (p := ⟨G, 7, none⟩) (by simp) _).setCell (p := ⟨G, 8, none⟩) (by simp) _).setCell (p := ⟨G, 9, none⟩) (by simp) _).setCell (p := ⟨G, 10, none⟩) (by simp) _).setCell (p := ⟨G, 11, none⟩) (by simp) _).setCell (p := ⟨G, 12, none⟩) (by simp) _).setCell (p := ⟨G, 13, none⟩) (by simp) _).setCell (p := ⟨G, 14, none⟩) (by simp) _).setCell (p := ⟨G, 15, none⟩) (by simp) _).setCell (p := ⟨G, 16, none⟩) (by simp) _).setCell (p := ⟨G, 17, none⟩) (by simp) _
  refine k _ ⟨h.p.but hb h.p.lt (by simpa using h.ne), ?_, h.ne⟩ hb (by simp [World.setCells, World.setCell])
  have h17 := (((((((((((((((((h.c.set 1 (.int .u32 (g'.r 0))).set 2 (.int .u32 (g'.r 1))).set 3 (.int .u32 (g'.r 2))).set 4 (.int .u32 (g'.r 3))).set 5 (.int .u32 (g'.r 4))).set 6 (.int .u32 (g'.r 5))).set 7 (.int .u32 (g'.r 6))).set 8 (.int .u32 (g'.r 7))).set 9 (.int .u32 g'.pc)).set 10 (.bool (g'.f 0))).set 11 (.bool (g'.f 1))).set 12 (.bool (g'.f 2))).set 13 (.bool (g'.f 3))).set 14 (.bool (g'.f 4))).set 15 (.bool (g'.f 5))).set 16 (.bool g'.df)).set 17 (.int .u64 g'.x))
  simp only [List.setIfInBounds_toArray, List.set_cons_zero, List.set_cons_succ] at h17
  exact h17
theorem store_gfl (hgd : op.guard = none) (x y : Operand) (ho : op.op = .store 26 x y) (f : Nat → Bool) (hx : a.eval x = .pointer (some ⟨G, 10, none⟩)) (hy : a.eval y = .agg #[.bool (f 0), .bool (f 1), .bool (f 2), .bool (f 3), .bool (f 4), .bool (f 5)]) (h : GuAt w G B g m)
    (k : ∀ W, GuAt W G B { g with f := f } m → But [G] w.heap.size w W → W.heap.size = w.heap.size → wpList Tryz.prog ops Q rest (a.put op.dst undef) W) : wpList Tryz.prog ops Q (op :: rest) a w := by
  refine wpList_store_mid hgd 26 x y ho G 10 #[.bool (f 0), .bool (f 1), .bool (f 2), .bool (f 3), .bool (f 4), .bool (f 5)] hx hy (h.c.thereT 10 6 (by simp)) (by kernel_rfl) (by simp [Value.oneCell']) ?_
  have hb : But [G] w.heap.size w (w.setCells G 10 [.bool (f 0), .bool (f 1), .bool (f 2), .bool (f 3), .bool (f 4), .bool (f 5)]) := by
    exact ((((((But.refl [G] w.heap.size w).setCell (p := ⟨G, 10, none⟩) (by simp) _).setCell (p := ⟨G, 11, none⟩) (by simp) _).setCell (p := ⟨G, 12, none⟩) (by simp) _).setCell (p := ⟨G, 13, none⟩) (by simp) _).setCell (p := ⟨G, 14, none⟩) (by simp) _).setCell (p := ⟨G, 15, none⟩) (by simp) _
  refine k _ ⟨h.p.but hb h.p.lt (by simpa using h.ne), ?_, h.ne⟩ hb (by simp [World.setCells, World.setCell])
  exact ((((((h.c.set 10 _).set 11 _).set 12 _).set 13 _).set 14 _).set 15 _)
end
theorem GuAt.cell1 {w : World} {G B : Nat} {g g' : Gs} {m : Mm} (h : GuAt w G B g m) (j : Nat) (v : Value) (hc : (guA B g).setIfInBounds j v = guA B g') : GuAt (w.setCell ⟨G, j, none⟩ v) G B g' m ∧ But [G] w.heap.size w (w.setCell ⟨G, j, none⟩ v) := by
  have hb := (But.refl [G] w.heap.size w).setCell (p := ⟨G, j, none⟩) (by simp) v
  refine ⟨⟨h.p.but hb h.p.lt (by simpa using h.ne), ?_, h.ne⟩, hb⟩
  have := h.c.set j v
  rwa [hc] at this
theorem GuAt.reg {w : World} {G B : Nat} {g : Gs} {m : Mm} (h : GuAt w G B g m) (j : Nat) (hj : j < 8) (v : Int) : GuAt (w.setCell ⟨G, 1 + j, none⟩ (.int .u32 v)) G B (setr g j v) m ∧ But [G] w.heap.size w (w.setCell ⟨G, 1 + j, none⟩ (.int .u32 v)) :=
  h.cell1 _ _ (by rcases (by omega : j = 0 ∨ j = 1 ∨ j = 2 ∨ j = 3 ∨ j = 4 ∨ j = 5 ∨ j = 6 ∨ j = 7) with rfl | rfl | rfl | rfl | rfl | rfl | rfl | rfl <;> rfl)
theorem GuAt.pc {w : World} {G B : Nat} {g : Gs} {m : Mm} (h : GuAt w G B g m) (v : Int) : GuAt (w.setCell ⟨G, 9, none⟩ (.int .u32 v)) G B { g with pc := v } m ∧ But [G] w.heap.size w (w.setCell ⟨G, 9, none⟩ (.int .u32 v)) := h.cell1 _ _ rfl
theorem GuAt.df {w : World} {G B : Nat} {g : Gs} {m : Mm} (h : GuAt w G B g m) (v : Bool) : GuAt (w.setCell ⟨G, 16, none⟩ (.bool v)) G B { g with df := v } m ∧ But [G] w.heap.size w (w.setCell ⟨G, 16, none⟩ (.bool v)) := h.cell1 _ _ rfl
theorem GuAt.x {w : World} {G B : Nat} {g : Gs} {m : Mm} (h : GuAt w G B g m) (v : Int) : GuAt (w.setCell ⟨G, 17, none⟩ (.int .u64 v)) G B { g with x := v } m ∧ But [G] w.heap.size w (w.setCell ⟨G, 17, none⟩ (.int .u64 v)) := h.cell1 _ _ rfl
theorem run_load_op {ev : Operand → Value} {o : Oper} {w : World} {x : Operand} (ho : o.op = .load 31 x) {K : Nat} {p : On} (hx : ev x = .pointer (some ⟨K, 0, none⟩)) (h : Blk w K 31 (op6 p)) :
    (execOp ev o).run Tryz.prog w = .ok (.value (opV p)) w := run_load_row ho hx 31 _ (0, 0) _ h.h Tryz.underlying31 rfl szO
end Go.Proofs.YtcdoidnfdkodoaaGreatDoor
