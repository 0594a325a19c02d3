import Derived.Test.YtcdoidnfdkodoaaGreatDoorS11
import Derived.Test.YtcdoidnfdkodoaaGreatDoorS10
import Derived.Test.YtcdoidnfdkodoaaGreatDoorRows
import Derived.Test.YtcdoidnfdkodoaaGreatDoorS00
import Derived.Laws.CopyOwn
import Derived.Test.YtcdoidnfdkodoaaGreatDoorS08
import Derived.Laws.CopyRow
import Derived.Test.YtcdoidnfdkodoaaGreatDoorS01
import Derived.Deep.MidRow
namespace Go.Proofs.YtcdoidnfdkodoaaGreatDoor
open Go.RowKit
set_option linter.unusedVariables false
set_option linter.unusedSimpArgs false
set_option linter.unusedSectionVars false
theorem Read_reg {B : Nat} {m : Mm} {w : World} (h : PAt w B m) (g : Gs) (o : On) (n : Int) (hk : o.k = 1) (hn : numO n = 4) :
    Calls Tryz.prog 197 #[mp B, stV g, opV o, .int .i64 n] w fun e w' => e = .returned (.tuple #[.int .u32 (regV g o.r), fltV 0 0 0 0, .bool true]) ∧ Below w.heap.size w w' :=
  oRead_yes h g o n _ (fun W hW => by rw [hn]; exact read_reg4 (mp B) g o hk W)
theorem Write_mem {B : Nat} {m : Mm} {w : World} (h : PAt w B m) (ok : m.ok) (g : Gs) (o : On) (n v : Int) (hv : 0 ≤ v ∧ v ≤ 4294967295) (hk : o.k = 3) (hl : lackL m (plO g o) 2 (numL (numO n)) = none) :
    Calls Tryz.prog 196 #[mp B, stV g, opV o, .int .i64 n, .int .u32 v] w fun e w' => e = .returned (.tuple #[stV g, fltV 0 0 0 0, .bool true]) ∧ PAt w' B (wroteS m (plO g o).toNat (numO n) v) ∧ But [B] w.heap.size w w' :=
  oWrite_yes h g o n v g _ (fun W hW => written_mem hW ok g o (numO n) v hv hk hl)
theorem Write_reg {B : Nat} {m : Mm} {w : World} (h : PAt w B m) (g : Gs) (o : On) (n v : Int) (j : Nat) (hj : j < 8) (hk : o.k = 1) (hr : o.r = j) (hn : numO n = 4) :
    Calls Tryz.prog 196 #[mp B, stV g, opV o, .int .i64 n, .int .u32 v] w fun e w' => e = .returned (.tuple #[stV (setr g j v), fltV 0 0 0 0, .bool true]) ∧ PAt w' B m ∧ But [B] w.heap.size w w' :=
  oWrite_yes h g o n v (setr g j v) m (fun W hW => by rw [hn]; exact (written_reg4 (mp B) g o j hj hk hr v W).mono fun e w' hh => ⟨hh.1, hW.below hh.2 hW.lt, But.of hh.2 _⟩)
structure EBx (W : World) (B Km Ka Kv : Nat) (a v : Int) : Prop where
  m : W.cell? ⟨Km, 0, none⟩ = some (mp B)
  a : W.cell? ⟨Ka, 0, none⟩ = some (.int .u32 a)
  v : W.cell? ⟨Kv, 0, none⟩ = some (.int .u64 v)
theorem EBx.below {W W' : World} {B Km Ka Kv : Nat} {a v : Int} (k : EBx W B Km Ka Kv a v) (b : Below W.heap.size W W') : EBx W' B Km Ka Kv a v :=
  ⟨(b.cell (p := ⟨Km, 0, none⟩) (size_of_cell k.m)).trans k.m, (b.cell (p := ⟨Ka, 0, none⟩) (size_of_cell k.a)).trans k.a, (b.cell (p := ⟨Kv, 0, none⟩) (size_of_cell k.v)).trans k.v⟩
end Go.Proofs.YtcdoidnfdkodoaaGreatDoor
namespace Go.Proofs.YtcdoidnfdkodoaaGreatDoor
open Go.RowKit
set_option linter.unusedVariables false
theorem one_any (c : Bool) (w : World) : Calls Tryz.prog 264 #[.bool c] w fun e w' => e = .returned (.int .i64 (c01 c)) ∧ w = w' := by
  cases c <;>
  · go_enter Tryz.func264, Tryz.ntmps264
    go_wp2
    go_ret
    exact ⟨rfl, rfl⟩
theorem beyond_any (p s : Int) (w : World) : Calls Tryz.prog 265 #[.int .i64 p, .int .i64 s] w fun e w' => e = .returned (.tuple #[.int .u32 (p % 4294967296), .bool (p != p % 4294967296), .bool (s != wrap32 s)]) ∧ w = w' := by
  have h32 := bd32 s
  go_enter Tryz.func265, Tryz.ntmps265
  go_wp2
  go_ret3
  exact ⟨rfl, rfl⟩
theorem addC_any (a b : Int) (c : Bool) (h : 0 ≤ a ∧ a ≤ 4294967295) (hb : 0 ≤ b ∧ b ≤ 4294967295) (w : World) : Calls Tryz.prog 253 #[.int .u32 a, .int .u32 b, .bool c] w fun e w' =>
    e = .returned (.tuple #[.int .u32 ((a + b + c01 c) % 4294967296), .bool (a + b + c01 c != (a + b + c01 c) % 4294967296), .bool (wrap32 a + wrap32 b + c01 c != wrap32 (wrap32 a + wrap32 b + c01 c))]) ∧ w = w' := by
  have h1 := bd32 a
  have h2 := bd32 b
  have h3 := bd01 c
  go_enter Tryz.func253, Tryz.ntmps253
  go_wp2_with (first | (go_at_call 264; refine (one_any _ _).mono ?_; rintro e w' ⟨rfl, rfl⟩) | (go_at_call 265; refine (beyond_any _ _ _).mono ?_; rintro e w' ⟨rfl, rfl⟩))
  go_ret3
  exact ⟨rfl, rfl⟩
theorem sign8_any (x : Int) (w : World) : Calls Tryz.prog 155 #[.int .u32 x] w fun e w' => e = .returned (.int .u32 (IntKind.i8.wrap x % 4294967296)) ∧ w = w' := by
  go_enter Tryz.func155, Tryz.ntmps155
  go_wp2
  go_ret
  exact ⟨rfl, rfl⟩
theorem lowest_any (n : Nat) (h : n ≤ 32) (w : World) : Calls Tryz.prog 263 #[.int .i64 n] w fun e w' => e = .returned (.int .u32 (2 ^ n - 1)) ∧ w = w' := by
  go_enter Tryz.func263, Tryz.ntmps263
  go_wp2
  go_ret
  exact ⟨ret_int (low_mask h), rfl⟩
theorem moved_any (x n : Int) (h : 0 ≤ x ∧ x ≤ 4294967295) (hn : -9223372036854775808 ≤ n ∧ n ≤ 9223372036854775807) (w : World) : Calls Tryz.prog 262 #[.int .u32 x, .int .i64 n] w fun e w' => e = .returned (.int .u32 (mov x n)) ∧ w = w' := by
  by_cases c1 : 0 ≤ n
  · obtain ⟨k, rfl⟩ := Int.eq_ofNat_of_zero_le c1
    go_enter Tryz.func262, Tryz.ntmps262
    go_wp2
    go_ret
    exact ⟨ret_int mov_up, rfl⟩
  · by_cases c2 : n < -32
    · go_enter Tryz.func262, Tryz.ntmps262
      go_wp2
      go_ret
      exact ⟨ret_int (mov_far c2), rfl⟩
    · go_enter Tryz.func262, Tryz.ntmps262
      go_wp2
      go_ret
      exact ⟨ret_int (mov_down (by omega) (by omega)), rfl⟩
theorem parity_any (x : Int) (h : 0 ≤ x ∧ x ≤ 4294967295) (w : World) : Calls Tryz.prog 252 #[.int .u32 x] w fun e w' => e = .returned (.bool (evenS x.toNat 8)) ∧ w = w' := by
  obtain ⟨X, rfl⟩ := Int.eq_ofNat_of_zero_le h.1
  rw [Int.toNat_natCast]
  go_enter Tryz.func252, Tryz.ntmps252
  go_wp2
  go_ret
  exact ⟨ret_bool (fold_even X (by omega)), rfl⟩
theorem field_any (x n k : Int) (h : 0 ≤ x ∧ x ≤ 4294967295) (hn : -9223372036854775808 ≤ n ∧ n ≤ 9223372036854775807) (w : World) : Calls Tryz.prog 251 #[.int .u32 x, .int .i64 n, .int .i64 k] w fun e w' => e = .returned (.int .u32 (fieldS x n k)) ∧ w = w' := by
  have hm := mov_bd x n h
  by_cases c1 : k < 0
  · go_enter Tryz.func251, Tryz.ntmps251
    go_wp2_with (first | (go_at_call 262; refine (moved_any _ _ h hn _).mono ?_; rintro e w' ⟨rfl, rfl⟩) | (go_at_call 263; refine (lowest_any 0 (by omega) _).mono ?_; rintro e w' ⟨rfl, rfl⟩))
    go_ret
    exact ⟨ret_int (field_lo hm c1), rfl⟩
  · by_cases c2 : 32 < k
    · go_enter Tryz.func251, Tryz.ntmps251
      go_wp2_with (first | (go_at_call 262; refine (moved_any _ _ h hn _).mono ?_; rintro e w' ⟨rfl, rfl⟩) | (go_at_call 263; refine (lowest_any 32 (by omega) _).mono ?_; rintro e w' ⟨rfl, rfl⟩))
      go_ret
      exact ⟨ret_int (field_hi hm c2), rfl⟩
    · obtain ⟨K, rfl⟩ := Int.eq_ofNat_of_zero_le (show 0 ≤ k by omega)
      go_enter Tryz.func251, Tryz.ntmps251
      go_wp2_with (first | (go_at_call 262; refine (moved_any _ _ h hn _).mono ?_; rintro e w' ⟨rfl, rfl⟩) | (go_at_call 263; refine (lowest_any _ (by omega) _).mono ?_; rintro e w' ⟨rfl, rfl⟩))
      go_ret
      exact ⟨ret_int (field_mid hm (by omega)), rfl⟩
set_option maxRecDepth 100000 in
theorem word_any (a : Option Addr) (len cap : Nat) (zs : List Int) (w : World) (h : Row8 w a len zs) : Calls Tryz.prog 257 #[.slice a len cap] w fun e w' => e = .returned (.int .u32 (wordS zs)) ∧ Below w.heap.size w w' := by
  obtain ⟨rfl, hz, h3⟩ := h
  have b0 := getD_bd hz 0
  have b1 := getD_bd hz 1
  have b2 := getD_bd hz 2
  have b3 := getD_bd hz 3
  have hsp := splice4 zs
  have hw : wordS zs = zs.getD 0 0 + zs.getD 1 0 * 256 + zs.getD 2 0 * 65536 + zs.getD 3 0 * 16777216 := rfl
  generalize zs.getD 0 0 = z0 at hsp hw b0
  generalize zs.getD 1 0 = z1 at hsp hw b1
  generalize zs.getD 2 0 = z2 at hsp hw b2
  generalize zs.getD 3 0 = z3 at hsp hw b3
  have Hsp := Lib.hid hsp
  have Hw := Lib.hid hw
  clear hsp hw
  have hcs : ((zs.take 4).map (Value.int .u8)).length = Nat.min zs.length 4 := by simp [Nat.min_comm]
  go_enter Tryz.func257, Tryz.ntmps257
  go_wp2_with (refine wpList_copy_splice rfl _ _ _ _ rfl 5 rfl (by kernel_rfl) _ _ _ _ _ _ rfl rfl w.heap.size 0 [.int .u8 0, .int .u8 0, .int .u8 0, .int .u8 0] 255 ?hg ((zs.take 4).map (Value.int .u8)) hcs ?hpos ?hfit ?h1 w.heap.size w ?hb ?hBg ?h)
  case hg => exact alloc_new _ _
  case hpos =>
    intro hp
    rcases h3 with rfl | ⟨b, off, rfl, hlt, hc⟩
    · simp at hp
    · refine ⟨_, rfl, fun j v hv => ?_⟩
      have hj : j < 4 ∧ j < zs.length := by
        have := (List.getElem?_eq_some_iff.1 hv).1
        simp at this; omega
      have := hc j hj.2
      rw [List.getD_eq_getElem?_getD, List.getElem?_eq_getElem hj.2, Option.getD_some] at this
      simp [hj.1, hj.2] at hv
      subst hv
      rw [← this]
      rw [show (⟨b, off, none⟩ : Addr).add j = ⟨b, off + j, none⟩ by simp [Addr.add]]
      exact World.cell?_alloc_lt w _ ⟨b, off + j, none⟩ hlt
  case hfit => simp; omega
  case h1 => exact fun v hv => by obtain ⟨z, _, rfl⟩ := List.mem_map.1 hv; rfl
  case hb => exact (Below.refl _ _).alloc (Nat.le_refl _) _
  case hBg => exact Nat.le_refl _
  intro w2 HG hB2
  have HG' := HG.out
  rw [Hsp.out] at HG'
  obtain ⟨c0, c1, c2, c3⟩ := cells4 HG'
  clear HG HG'
  go_wp2
  go_ret
  exact ⟨ret_int ((or_bytes _ _ _ _ b0 b1 b2 b3).trans Hw.out.symm), hB2⟩
end Go.Proofs.YtcdoidnfdkodoaaGreatDoor
namespace Go.Proofs.YtcdoidnfdkodoaaGreatDoor
open Go.RowKit
set_option linter.unusedVariables false
set_option linter.unusedSimpArgs false
set_option linter.unusedSectionVars false
def setB (x : Int) (b : Nat) (v : Int) : Int := if b = 0 then x - x % 256 + v % 256 else x - x / 256 % 256 * 256 + v % 256 * 256
abbrev b4 (x : Int) : Value := .agg #[.int .u8 (x % 256), .int .u8 (x / 256 % 256), .int .u8 (x / 65536 % 256), .int .u8 (x / 16777216)]
end Go.Proofs.YtcdoidnfdkodoaaGreatDoor
namespace Go.Proofs.YtcdoidnfdkodoaaGreatDoor
open Go.RowKit
set_option linter.unusedVariables false
set_option linter.unusedSimpArgs false
set_option linter.unusedSectionVars false
end Go.Proofs.YtcdoidnfdkodoaaGreatDoor
namespace Go.Proofs.YtcdoidnfdkodoaaGreatDoor
open Go.RowKit
set_option linter.unusedVariables false
set_option linter.unusedSimpArgs false
set_option linter.unusedSectionVars false
abbrev guA (B : Nat) (g : Gs) : Array Value := #[mp B, .int .u32 (g.r 0), .int .u32 (g.r 1), .int .u32 (g.r 2), .int .u32 (g.r 3), .int .u32 (g.r 4), .int .u32 (g.r 5), .int .u32 (g.r 6), .int .u32 (g.r 7), .int .u32 g.pc,
  .bool (g.f 0), .bool (g.f 1), .bool (g.f 2), .bool (g.f 3), .bool (g.f 4), .bool (g.f 5), .bool g.df, .int .u64 g.x]
structure GuAt (w : World) (G B : Nat) (g : Gs) (m : Mm) : Prop where
  p : PAt w B m
  c : Blk w G 121 (guA B g)
  ne : ¬ B = G
section
variable {w w' : World} {G B n : Nat} {g g' : Gs} {m m' : Mm}
theorem GuAt.below (h : GuAt w G B g m) (b : Below w.heap.size w w') : GuAt w' G B g m := ⟨h.p.below b h.p.lt, h.c.below b h.c.lt, h.ne⟩
theorem GuAt.drew (h : GuAt w G B g m) : GuAt w.drew G B g m := ⟨h.p.drew, h.c.drew, h.ne⟩
theorem GuAt.but {S : List Nat} (h : GuAt w G B g m) (b : But S w.heap.size w w') (h1 : B ∉ S) (h2 : G ∉ S) : GuAt w' G B g m := ⟨h.p.but b h.p.lt h1, h.c.but b h.c.lt h2, h.ne⟩
theorem GuAt.mem (h : GuAt w G B g m) (p : PAt w' B m') (b : But [B] w.heap.size w w') : GuAt w' G B g m' := ⟨p, h.c.but b h.c.lt (by simpa using fun e => h.ne e.symm), h.ne⟩
theorem GuAt.st (h : GuAt w G B g m) : w.rangeAt G 1 (stA g).toList := by
  intro j v hv
  have hj : j < 17 := by have := (List.getElem?_eq_some_iff.1 hv).1; simpa using this
  refine h.c.cell ?_
  rcases (by omega : j = 0 ∨ j = 1 ∨ j = 2 ∨ j = 3 ∨ j = 4 ∨ j = 5 ∨ j = 6 ∨ j = 7 ∨ j = 8 ∨ j = 9 ∨ j = 10 ∨ j = 11 ∨ j = 12 ∨ j = 13 ∨ j = 14 ∨ j = 15 ∨ j = 16) with rfl | rfl | rfl | rfl | rfl | rfl | rfl | rfl | rfl | rfl | rfl | rfl | rfl | rfl | rfl | rfl | rfl <;> simpa using hv
theorem GuAt.fl (h : GuAt w G B g m) : w.rangeAt G 10 [.bool (g.f 0), .bool (g.f 1), .bool (g.f 2), .bool (g.f 3), .bool (g.f 4), .bool (g.f 5)] := by
  intro j v hv
  have hj : j < 6 := by have := (List.getElem?_eq_some_iff.1 hv).1; simpa using this
  refine h.c.cell ?_
  rcases (by omega : j = 0 ∨ j = 1 ∨ j = 2 ∨ j = 3 ∨ j = 4 ∨ j = 5) with rfl | rfl | rfl | rfl | rfl | rfl <;> simpa using hv
theorem Blk.thereT {W : World} {K : Nat} {t : TypeId} {cs : Array Value} (k : Blk W K t cs) (o n : Nat) (h : o + n ≤ cs.size) : W.there K o n := by
  intro i hi
  refine ⟨?_, k.fr _⟩
  rw [k.cell (v := cs[o + i]'(by omega)) (by simp)]
  rfl
end
theorem run_load_mid {P : Program} {ev : Operand → Value} {o : Oper} {w : World} {ty : TypeId} {x : Operand} (ho : o.op = .load ty x) {b off : Nat} (hx : ev x = .pointer (some ⟨b, off, none⟩)) (cs : List Value) (d : TypeDesc)
    (hc : w.rangeAt b off cs) (hu : P.underlying ty = some d) (hd : d.isRow = true) (hi : (P.info? ty).map (·.size) = some cs.length) :
    (execOp ev o).run P w = .ok (.value (.agg cs.toArray)) w := by
  unfold execOp
  simp only [ho, hx, run_loadAt_mid w b off ty cs d hc hu hd hi, Sem.run_bind, Sem.run_pure, Result.andThen_ok]
theorem run_load_gst {ev : Operand → Value} {o : Oper} {w : World} {x : Operand} (ho : o.op = .load 29 x) {G B : Nat} {g : Gs} {m : Mm} (hx : ev x = .pointer (some ⟨G, 1, none⟩)) (h : GuAt w G B g m) :
    (execOp ev o).run Tryz.prog w = .ok (.value (stV g)) w := by
  have := run_load_mid (P := Tryz.prog) ho hx (stA g).toList _ h.st Tryz.underlying29 rfl (by kernel_rfl)
  simpa using this
theorem run_load_gfl {ev : Operand → Value} {o : Oper} {w : World} {x : Operand} (ho : o.op = .load 26 x) {G B : Nat} {g : Gs} {m : Mm} (hx : ev x = .pointer (some ⟨G, 10, none⟩)) (h : GuAt w G B g m) :
    (execOp ev o).run Tryz.prog w = .ok (.value (.agg #[.bool (g.f 0), .bool (g.f 1), .bool (g.f 2), .bool (g.f 3), .bool (g.f 4), .bool (g.f 5)])) w := by
  have := run_load_mid (P := Tryz.prog) ho hx _ _ h.fl Tryz.underlying26 rfl (by kernel_rfl)
  simpa using this
section
variable {ops : Array Oper} {rest : List Oper} {op : Oper} {a : Act} {w : World} {Q : Exit → Act → World → Prop} {G B : Nat} {g : Gs} {m : Mm}
theorem load_gst (hgd : op.guard = none) (x : Operand) (ho : op.op = .load 29 x) (hx : a.eval x = .pointer (some ⟨G, 1, none⟩)) (h : GuAt w G B g m)
    (k : wpList Tryz.prog ops Q rest (a.put op.dst (stV g)) w) : wpList Tryz.prog ops Q (op :: rest) a w :=
  wpList_load_mid hgd 29 x ho G 1 hx (stA g).toList _ h.st Tryz.underlying29 rfl (by kernel_rfl) (by simpa using k)
theorem stA_oneT (g : Gs) : (stA g).all (·.oneCell') = true := by simp [Value.oneCell']
theorem store_gst (hgd : op.guard = none) (x y : Operand) (ho : op.op = .store 29 x y) (g' : Gs) (hx : a.eval x = .pointer (some ⟨G, 1, none⟩)) (hy : a.eval y = stV g') (h : GuAt w G B g m)
    (k : ∀ W, GuAt W G B g' m → But [G] w.heap.size w W → W.heap.size = w.heap.size → wpList Tryz.prog ops Q rest (a.put op.dst undef) W) : wpList Tryz.prog ops Q (op :: rest) a w := by
  refine wpList_store_mid hgd 29 x y ho G 1 (stA g') hx hy (h.c.thereT 1 17 (by simp)) (by kernel_rfl) (stA_oneT g') ?_
  have hb : But [G] w.heap.size w (w.setCells G 1 (stA g').toList) := by
    exact (((((((((((((((((But.refl [G] w.heap.size w).setCell (p := ⟨G, 1, none⟩) (by simp) _).setCell (p := ⟨G, 2, none⟩) (by simp) _).setCell (p := ⟨G, 3, none⟩) (by simp) _).setCell (p := ⟨G, 4, none⟩) (by simp) _).setCell (p := ⟨G, 5, none⟩) (by simp) _).setCell (p := ⟨G, 6, none⟩) (by simp) _).setCell (p := ⟨G, 7, none⟩) (by simp) _).setCell (p := ⟨G, 8, none⟩) (by simp) _).setCell (p := ⟨G, 9, none⟩) (by simp) _).setCell (p := ⟨G, 10, none⟩) (by simp) _).setCell (p := ⟨G, 11, none⟩) (by simp) _).setCell (p := ⟨G, 12, none⟩) (by simp) _).setCell (p := ⟨G, 13, none⟩) (by simp) _).setCell (p := ⟨G, 14, none⟩) (by simp) _).setCell (p := ⟨G, 15, none⟩) (by simp) _).setCell (p := ⟨G, 16, none⟩) (by simp) _).setCell (p := ⟨G, 17, none⟩) (by simp) _
  refine k _ ⟨h.p.but hb h.p.lt (by simpa using h.ne), ?_, h.ne⟩ hb (by simp [World.setCells, World.setCell])
  have h17 := (((((((((((((((((h.c.set 1 (.int .u32 (g'.r 0))).set 2 (.int .u32 (g'.r 1))).set 3 (.int .u32 (g'.r 2))).set 4 (.int .u32 (g'.r 3))).set 5 (.int .u32 (g'.r 4))).set 6 (.int .u32 (g'.r 5))).set 7 (.int .u32 (g'.r 6))).set 8 (.int .u32 (g'.r 7))).set 9 (.int .u32 g'.pc)).set 10 (.bool (g'.f 0))).set 11 (.bool (g'.f 1))).set 12 (.bool (g'.f 2))).set 13 (.bool (g'.f 3))).set 14 (.bool (g'.f 4))).set 15 (.bool (g'.f 5))).set 16 (.bool g'.df)).set 17 (.int .u64 g'.x))
  simp only [List.setIfInBounds_toArray, List.set_cons_zero, List.set_cons_succ] at h17
  exact h17
theorem store_gfl (hgd : op.guard = none) (x y : Operand) (ho : op.op = .store 26 x y) (f : Nat → Bool) (hx : a.eval x = .pointer (some ⟨G, 10, none⟩)) (hy : a.eval y = .agg #[.bool (f 0), .bool (f 1), .bool (f 2), .bool (f 3), .bool (f 4), .bool (f 5)]) (h : GuAt w G B g m)
    (k : ∀ W, GuAt W G B { g with f := f } m → But [G] w.heap.size w W → W.heap.size = w.heap.size → wpList Tryz.prog ops Q rest (a.put op.dst undef) W) : wpList Tryz.prog ops Q (op :: rest) a w := by
  refine wpList_store_mid hgd 26 x y ho G 10 #[.bool (f 0), .bool (f 1), .bool (f 2), .bool (f 3), .bool (f 4), .bool (f 5)] hx hy (h.c.thereT 10 6 (by simp)) (by kernel_rfl) (by simp [Value.oneCell']) ?_
  have hb : But [G] w.heap.size w (w.setCells G 10 [.bool (f 0), .bool (f 1), .bool (f 2), .bool (f 3), .bool (f 4), .bool (f 5)]) := by
    exact ((((((But.refl [G] w.heap.size w).setCell (p := ⟨G, 10, none⟩) (by simp) _).setCell (p := ⟨G, 11, none⟩) (by simp) _).setCell (p := ⟨G, 12, none⟩) (by simp) _).setCell (p := ⟨G, 13, none⟩) (by simp) _).setCell (p := ⟨G, 14, none⟩) (by simp) _).setCell (p := ⟨G, 15, none⟩) (by simp) _
  refine k _ ⟨h.p.but hb h.p.lt (by simpa using h.ne), ?_, h.ne⟩ hb (by simp [World.setCells, World.setCell])
  exact ((((((h.c.set 10 _).set 11 _).set 12 _).set 13 _).set 14 _).set 15 _)
end
theorem GuAt.cell1 {w : World} {G B : Nat} {g g' : Gs} {m : Mm} (h : GuAt w G B g m) (j : Nat) (v : Value) (hc : (guA B g).setIfInBounds j v = guA B g') : GuAt (w.setCell ⟨G, j, none⟩ v) G B g' m ∧ But [G] w.heap.size w (w.setCell ⟨G, j, none⟩ v) := by
  have hb := (But.refl [G] w.heap.size w).setCell (p := ⟨G, j, none⟩) (by simp) v
  refine ⟨⟨h.p.but hb h.p.lt (by simpa using h.ne), ?_, h.ne⟩, hb⟩
  have := h.c.set j v
  rwa [hc] at this
theorem GuAt.reg {w : World} {G B : Nat} {g : Gs} {m : Mm} (h : GuAt w G B g m) (j : Nat) (hj : j < 8) (v : Int) : GuAt (w.setCell ⟨G, 1 + j, none⟩ (.int .u32 v)) G B (setr g j v) m ∧ But [G] w.heap.size w (w.setCell ⟨G, 1 + j, none⟩ (.int .u32 v)) :=
  h.cell1 _ _ (by rcases (by omega : j = 0 ∨ j = 1 ∨ j = 2 ∨ j = 3 ∨ j = 4 ∨ j = 5 ∨ j = 6 ∨ j = 7) with rfl | rfl | rfl | rfl | rfl | rfl | rfl | rfl <;> rfl)
theorem GuAt.pc {w : World} {G B : Nat} {g : Gs} {m : Mm} (h : GuAt w G B g m) (v : Int) : GuAt (w.setCell ⟨G, 9, none⟩ (.int .u32 v)) G B { g with pc := v } m ∧ But [G] w.heap.size w (w.setCell ⟨G, 9, none⟩ (.int .u32 v)) := h.cell1 _ _ rfl
theorem GuAt.df {w : World} {G B : Nat} {g : Gs} {m : Mm} (h : GuAt w G B g m) (v : Bool) : GuAt (w.setCell ⟨G, 16, none⟩ (.bool v)) G B { g with df := v } m ∧ But [G] w.heap.size w (w.setCell ⟨G, 16, none⟩ (.bool v)) := h.cell1 _ _ rfl
theorem GuAt.x {w : World} {G B : Nat} {g : Gs} {m : Mm} (h : GuAt w G B g m) (v : Int) : GuAt (w.setCell ⟨G, 17, none⟩ (.int .u64 v)) G B { g with x := v } m ∧ But [G] w.heap.size w (w.setCell ⟨G, 17, none⟩ (.int .u64 v)) := h.cell1 _ _ rfl
theorem run_load_op {ev : Operand → Value} {o : Oper} {w : World} {x : Operand} (ho : o.op = .load 31 x) {K : Nat} {p : On} (hx : ev x = .pointer (some ⟨K, 0, none⟩)) (h : Blk w K 31 (op6 p)) :
    (execOp ev o).run Tryz.prog w = .ok (.value (opV p)) w := run_load_row ho hx 31 _ (0, 0) _ h.h Tryz.underlying31 rfl szO
end Go.Proofs.YtcdoidnfdkodoaaGreatDoor
