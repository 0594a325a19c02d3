import Derived.Test.YtcgleggdochbeaaDoorS27
import Derived.Test.YtcgleggdochbeaaDoorS48
import Derived.Test.YtcgleggdochbeaaDoorS32
import Derived.Laws.BytesString
namespace Go.Proofs.YtcgleggdochbeaaDoor
open Go.RowKit
set_option maxRecDepth 100000
set_option maxHeartbeats 8000000
set_option linter.unusedVariables false
set_option linter.unusedSimpArgs false
set_option linter.unusedSectionVars false
theorem isNaNi (x : Int) (w : World) : Calls Tryd.prog 66 #[.int .i64 x] w fun e w' => e = .returned (.bool false) ∧ w = w' := by
 go_enter Tryd.func66, Tryd.ntmps66
 go_wp2
 go_ret
 exact ⟨by simp, rfl⟩
theorem isNaNb (x : Int) (w : World) : Calls Tryd.prog 82 #[.int .u8 x] w fun e w' => e = .returned (.bool false) ∧ w = w' := by
 go_enter Tryd.func82, Tryd.ntmps82
 go_wp2
 go_ret
 exact ⟨by simp, rfl⟩
def cmpI (x y : Int) : Int := if x < y then -1 else if y < x then 1 else 0
theorem comparei (x y : Int) (w : World) : Calls Tryd.prog 40 #[.int .i64 x, .int .i64 y] w fun e w' => e = .returned (.int .i64 (cmpI x y)) ∧ w = w' := by
 have h := fun x w => isNaNi x w
 go_enter Tryd.func40, Tryd.ntmps40
 go_wp2_with ((with_reducible refine (h _ _).mono ?_); rintro e w' ⟨rfl, rfl⟩)
 all_goals (go_ret; refine ⟨?_, rfl⟩; unfold cmpI; (repeat' split) <;> first | rfl | (exfalso; omega))
theorem compareb (x y : Int) (w : World) : Calls Tryd.prog 67 #[.int .u8 x, .int .u8 y] w fun e w' => e = .returned (.int .i64 (cmpI x y)) ∧ w = w' := by
 have h := fun x w => isNaNb x w
 go_enter Tryd.func67, Tryd.ntmps67
 go_wp2_with ((with_reducible refine (h _ _).mono ?_); rintro e w' ⟨rfl, rfl⟩)
 all_goals (go_ret; refine ⟨?_, rfl⟩; unfold cmpI; (repeat' split) <;> first | rfl | (exfalso; omega))
theorem drop_cons (zs : List Int) {k : Nat} (h : k < zs.length) : zs.drop k = zs.getD k 0 :: zs.drop (k + 1) := by
 rw [List.getD_eq_getElem?_getD, List.getElem?_eq_getElem h]
 exact List.drop_eq_getElem_cons h
theorem lex_nil (u : List Int) : lexLt u [] = false := by cases u <;> rfl
theorem cmpI_lt {x y : Int} (h : ¬ cmpI x y = 0) (xs ys : List Int) : decide (cmpI x y < 0) = lexLt (x :: xs) (y :: ys) := by
 unfold cmpI at h ⊢
 unfold lexLt
 by_cases h1 : x < y
 ·rw [if_pos h1]; simp [h1]
 ·rw [if_neg h1] at h ⊢
  by_cases h2 : y < x
  ·rw [if_pos h2]
   have : (x == y) = false := by simp; omega
   simp [h1, this]
  ·rw [if_neg h2] at h; exact absurd rfl h
theorem cmpI_eq {x y : Int} (h : cmpI x y = 0) (xs ys : List Int) : lexLt (x :: xs) (y :: ys) = lexLt xs ys := by
 unfold cmpI at h
 have : x = y := by
  by_cases h1 : x < y
  ·rw [if_pos h1] at h; exact absurd h (by decide)
  ·rw [if_neg h1] at h
   by_cases h2 : y < x
   ·rw [if_pos h2] at h; exact absurd h (by decide)
   ·omega
 subst this
 conv => lhs; unfold lexLt
 simp
theorem Bs.at' {W : World} {v : Value} {zs : List Int} (h : Bs W v zs) : ∃ a c, v = .slice a zs.length c ∧ c ≤ 9223372036854775807 ∧ zs.length ≤ c ∧ (0 < zs.length → ∃ g off, a = some ⟨g, off, none⟩ ∧ ∀ i, i < zs.length → W.cell? ⟨g, off + i, none⟩ = some (.int .u8 (zs.getD i 0))) := by
 obtain ⟨a, c, rfl, ⟨r1, r2, r3⟩, h2, h3, h4⟩ := h
 refine ⟨a, c, rfl, h3, h2, fun h => ?_⟩
 rcases r3 with rfl | ⟨g, off, rfl, -, hc⟩
 ·exact absurd h (by simp)
 ·exact ⟨g, off, rfl, hc⟩
theorem scompare_any {w : World} {v u : Value} {zs ys : List Int} (hz : Bs w v zs) (hy : Bs w u ys) : Calls Tryd.prog 41 #[v, u] w fun e w' => ∃ c, e = .returned (.int .i64 c) ∧ decide (c < 0) = lexLt zs ys ∧ w = w' := by
 have hc := Lib.hid (fun x y W => compareb x y W)
 obtain ⟨a, ca, rfl, hca, hcb, ha⟩ := hz.at'
 obtain ⟨b, cb, rfl, hcc, hcd, hb⟩ := hy.at'
 go_enter Tryd.func41, Tryd.ntmps41
 go_wp2_with fail
 go_loopw [11] (fun ii W => ∃ k : Nat, k ≤ zs.length ∧ k ≤ ys.length ∧ ii = .int .i64 k ∧ RowKit.Hid (lexLt zs ys = lexLt (zs.drop k) (ys.drop k)) ∧ w = W) (fun ii _ => zs.length - (intOf ii).toNat)
 case atStart => exact ⟨0, by omega, by omega, rfl, Lib.hid (by simp), rfl⟩
 case round =>
  obtain ⟨k, hk, hk2, rfl, hl, rfl⟩ := hrel
  by_cases hlt : k < zs.length
  ·have h1 : ((k : Int) < (zs.length : Int)) = True := eq_true (by omega)
   obtain ⟨g, off, rfl, hca⟩ := ha (by omega)
   have e1 := hca k hlt
   clear hca ha
   have hwr : IntKind.i64.wrap ((k : Int) + 1) = (k : Int) + 1 := by rw [IntKind.wrap_i64]; omega
   by_cases hlt2 : k < ys.length
   ·have h2 : ((ys.length : Int) ≤ (k : Int)) = False := eq_false (by omega)
    obtain ⟨g2, off2, rfl, hcb⟩ := hb (by omega)
    have e2 := hcb k hlt2
    clear hcb hb
    have hl2 := hl.out
    rw [drop_cons zs hlt, drop_cons ys hlt2] at hl2
    have HL := Lib.hid hl2
    clear hl hl2
    generalize zs.getD k 0 = x at *
    generalize ys.getD k 0 = y at *
    by_cases hz0 : cmpI x y = 0
    ·have hl3 := Lib.hid (HL.out.trans (cmpI_eq hz0 _ _))
     have hcc := hc.out x y w
     rw [hz0] at hcc
     have HC := Lib.hid hcc
     clear hcc hz0 HL
     go_wp2_with ((with_reducible refine HC.out.mono ?_); rintro e w' ⟨rfl, rfl⟩)
     go_roundw
     case rel => exact ⟨k + 1, by omega, by omega, by go_num, hl3, trivial⟩
     case measure => simp [intOf]; omega
    ·have hl3 := Lib.hid ((cmpI_lt hz0 (zs.drop (k + 1)) (ys.drop (k + 1))).trans HL.out.symm)
     have hne : (cmpI x y != 0) = true := by simp [hz0]
     have HC := Lib.hid (hc.out x y w)
     clear hz0 HL
     generalize cmpI x y = c at *
     go_wp2_with ((with_reducible refine HC.out.mono ?_); rintro e w' ⟨rfl, rfl⟩)
     go_ret
     exact ⟨_, rfl, hl3.out, rfl⟩
   ·have h2 : ((ys.length : Int) ≤ (k : Int)) = True := eq_true (by omega)
    obtain rfl : k = ys.length := by omega
    have hl2 := hl.out
    rw [List.drop_length, lex_nil] at hl2
    go_wp2_with fail
    go_ret
    exact ⟨1, rfl, by rw [hl2]; decide, rfl⟩
  ·have h1 : ((k : Int) < (zs.length : Int)) = False := eq_false (by omega)
   obtain rfl : k = zs.length := by omega
   have hl2 := hl.out
   rw [List.drop_length] at hl2
   by_cases hlt2 : zs.length < ys.length
   ·have h2 : ((zs.length : Int) < (ys.length : Int)) = True := eq_true (by omega)
    rw [drop_cons ys hlt2] at hl2
    go_wp2_with fail
    go_ret
    exact ⟨-1, rfl, by rw [hl2]; rfl, rfl⟩
   ·have h2 : ((zs.length : Int) < (ys.length : Int)) = False := eq_false (by omega)
    rw [List.drop_eq_nil_of_le (by omega)] at hl2
    go_wp2_with fail
    go_ret
    exact ⟨0, rfl, by rw [hl2]; rfl, rfl⟩
/-- cmp.Or of two numbers. -/
theorem or2_any {w : World} {g : Nat} {x y : Int} (h : Blk w g 3 #[.int .i64 x, .int .i64 y]) : Calls Tryd.prog 39 #[.slice (some ⟨g, 0, none⟩) 2 2] w fun e w' => e = .returned (.int .i64 (if x = 0 then y else x)) ∧ w = w' := by
 have c0 := h.cell (i := 0) (v := .int .i64 x) rfl
 have c1 := h.cell (i := 1) (v := .int .i64 y) rfl
 go_enter Tryd.func39, Tryd.ntmps39
 go_wp2_with fail
 go_loopw [8] (fun ii W => ∃ k : Nat, k ≤ 2 ∧ ii = .int .i64 k ∧ (1 ≤ k → x = 0) ∧ (2 ≤ k → y = 0) ∧ w = W) (fun ii _ => 2 - (intOf ii).toNat)
 case atStart => exact ⟨0, by omega, rfl, by omega, by omega, rfl⟩
 case round =>
  obtain ⟨k, hk, rfl, hx, hy, rfl⟩ := hrel
  rcases (by omega : k = 0 ∨ k = 1 ∨ k = 2) with rfl | rfl | rfl
  ·rw [show ((0 : Nat) : Int) = 0 from rfl]
   by_cases h0 : x = 0
   ·subst h0
    go_wp2_with fail
    go_roundw
    case rel => exact ⟨1, by omega, by go_num, by simp, by omega, trivial⟩
    case measure => simp [intOf]
   ·have hne : (x != 0) = true := by simp [h0]
    go_wp2_with fail
    go_ret
    exact ⟨rfl, rfl⟩
  ·rw [show ((1 : Nat) : Int) = 1 from rfl]
   obtain rfl := hx (by omega)
   by_cases h0 : y = 0
   ·subst h0
    go_wp2_with fail
    go_roundw
    case rel => exact ⟨2, by omega, by go_num, by simp, by simp, trivial⟩
    case measure => simp [intOf]
   ·have hne : (y != 0) = true := by simp [h0]
    go_wp2_with fail
    go_ret
    exact ⟨rfl, rfl⟩
  ·rw [show ((2 : Nat) : Int) = 2 from rfl]
   obtain rfl := hx (by omega)
   obtain rfl := hy (by omega)
   go_wp2_with fail
   go_ret
   exact ⟨rfl, rfl⟩
theorem or_lt (z y : List Int) (c : Int) (hc : decide (c < 0) = lexLt z y) : decide ((if cmpI (z.length : Int) (y.length : Int) = 0 then c else cmpI (z.length : Int) (y.length : Int)) < 0) = ltW z y := by
 unfold ltW cmpI
 by_cases h1 : (z.length : Int) < (y.length : Int)
 ·rw [if_pos h1, if_neg (by decide)]
  have : z.length < y.length := by omega
  simp [this]
 ·rw [if_neg h1]
  by_cases h2 : (y.length : Int) < (z.length : Int)
  ·rw [if_pos h2, if_neg (by decide)]
   have h3 : ¬ z.length < y.length := by omega
   have h4 : (z.length == y.length) = false := by simp; omega
   simp [h3, h4]
  ·rw [if_neg h2, if_pos rfl, hc]
   have h3 : ¬ z.length < y.length := by omega
   have h4 : (z.length == y.length) = true := by simp; omega
   simp [h3, h4]
theorem ahead_any {w : World} {v u : Value} {zs ys : List Int} (hz : Bs w v zs) (hy : Bs w u ys) : Calls Tryd.prog 21 #[v, u] w fun e w' => e = .returned (.bool (ltW zs ys)) ∧ Below w.heap.size w w' := by
 have hS := Lib.hid (scompare_any hz hy)
 have hC := Lib.hid (fun W => comparei (zs.length : Int) (ys.length : Int) W)
 have hol := Lib.hid (fun c => or_lt zs ys c)
 obtain ⟨a, ca, rfl, hz2⟩ := id hz
 obtain ⟨b, cb, rfl, hy2⟩ := id hy
 generalize ltW zs ys = q at *
 generalize cmpI (zs.length : Int) (ys.length : Int) = x at *
 go_enter Tryd.func21, Tryd.ntmps21
 go_wp2_with (first | ((with_reducible refine (hC.out _).mono ?_); rintro e w' ⟨rfl, rfl⟩) | ((with_reducible refine hS.out.mono ?_); rintro e w' ⟨c, rfl, hc, rfl⟩))
 refine (or2_any (Blk.new w 3 _)).mono ?_
 rintro e w' ⟨rfl, rfl⟩
 have hq := hol.out c hc
 generalize (if x = 0 then c else x) = d at *
 go_wp2_with fail
 go_ret
 exact ⟨rfl, (Below.refl _ _).alloc (Nat.le_refl _) _⟩
end Go.Proofs.YtcgleggdochbeaaDoor
namespace Go.Proofs.YtcgleggdochbeaaDoor
open Go.RowKit
set_option maxRecDepth 100000
set_option maxHeartbeats 8000000
set_option linter.unusedVariables false
set_option linter.unusedSimpArgs false
set_option linter.unusedSectionVars false
theorem two_in (w : World) (a b : In) : Blk ((w.alloc (.cells (in16 a) 26)).alloc (.cells (in16 b) 26)) w.heap.size 26 (in16 a) ∧ Blk ((w.alloc (.cells (in16 a) 26)).alloc (.cells (in16 b) 26)) (w.heap.size + 1) 26 (in16 b)
  ∧ Below w.heap.size w ((w.alloc (.cells (in16 a) 26)).alloc (.cells (in16 b) 26)) := by
 refine ⟨(Blk.new w 26 (in16 a)).alloc _, ?_, ((Below.refl _ w).alloc (Nat.le_refl _) _).alloc (by simp) _⟩
 have := Blk.new (w.alloc (.cells (in16 a) 26)) 26 (in16 b)
 simpa using this
theorem Same_any (a b : In) (w : World) : Calls Tryd.prog 38 #[inV a, inV b] w fun e w' => e = .returned (.bool (sameI a (withLen b a.len))) ∧ Below w.heap.size w w' := by
 obtain ⟨kA, kB, kw⟩ := two_in w a b
 have heq : ∀ W, (Op.equalIn 10000 26 (.agg (in16 a)) (.agg (in16 (withLen b a.len)))).run Tryd.prog W = .ok (sameI a (withLen b a.len)) W := eqv_in a (withLen b a.len)
 have zA := in16_size a
 have zB := in16_size (withLen b a.len)
 have hlt := kA.lt
 generalize sameI a (withLen b a.len) = q at *
 go_enter Tryd.func38, Tryd.ntmps38
 go_upto_region 1 with fail
 generalize (w.alloc (.cells (in16 a) 26)).alloc (.cells (in16 b) 26) = W at *
 have a15 := kA.cell (i := 15) (v := .int .i64 a.len) rfl
 have b15 := kB.cell (i := 15) (v := .int .i64 b.len) rfl
 have f15 := kB.fr 15
 go_upto_region 2 with fail
 have kB2 : Blk (W.setCell ⟨w.heap.size + 1, 15, none⟩ (.int .i64 a.len)) (w.heap.size + 1) 26 (in16 (withLen b a.len)) := kB.set 15 (.int .i64 a.len)
 have kA2 : Blk (W.setCell ⟨w.heap.size + 1, 15, none⟩ (.int .i64 a.len)) w.heap.size 26 (in16 a) := kA.other 15 _ (by omega)
 have kw2 : Below w.heap.size w (W.setCell ⟨w.heap.size + 1, 15, none⟩ (.int .i64 a.len)) := kw.trans ((But.cell1 W (w.heap.size + 1) 15 (.int .i64 a.len)).below kw.size (by simp))
 generalize W.setCell ⟨w.heap.size + 1, 15, none⟩ (.int .i64 a.len) = W2 at *
 clear a15 b15 f15 kA kB
 generalize in16 a = CA at *
 generalize in16 (withLen b a.len) = CB at *
 go_wp2_with (first | (with_reducible refine load_inR rfl _ rfl w.heap.size CA rfl kA2 zA ?_) | (with_reducible refine load_inR rfl _ rfl (w.heap.size + 1) CB rfl kB2 zB ?_))
 go_ret
 exact ⟨rfl, kw2⟩
theorem means_any {w : World} {v : Value} {z : List Int} (hz : Bs w v z) (k : In) (tabs : Tabs w) : Calls Tryd.prog 20 #[v, inV k] w fun e w' => e = .returned (.bool (meansE z k)) ∧ Below w.heap.size w w' := by
 obtain ⟨a, c, rfl, A⟩ := hz
 have b1 := (Below.refl w.heap.size w).alloc (Nat.le_refl _) (.cells (in16 k) 26)
 have hD := Lib.hid (Decode_any (A.below b1) (tabs.below b1))
 have kI := Blk.new w 26 (in16 k)
 unfold meansE
 have hS := Lib.hid (fun W => Same_any (decI z) k W)
 generalize hq : sameI (decI z) (withLen k (decI z).len) = q at *
 have HQ := Lib.hid hq
 clear hq
 generalize decI z = i at *
 generalize decE z = x at *
 go_enter Tryd.func20, Tryd.ntmps20
 go_upto_region 1 with fail
 generalize w.alloc (.cells (in16 k) 26) = W1 at *
 go_upto_region 2 with (first | ((with_reducible refine hD.out.mono ?_); rintro e W2 ⟨rfl, b2⟩) | ((with_reducible refine store_in_as rfl _ _ rfl (in16 i) (in16_size _) (in16_one _) rfl rfl ?_); intro W3 kR b3))
 have kI3 := (kI.below b2 kI.lt).below b3 (Nat.lt_of_lt_of_le kI.lt b2.size)
 have k3 := (b1.trans (b2.mono b1.size)).trans (b3.mono (Nat.le_trans b1.size b2.size))
 generalize W2.heap.size = B at *
 cases hx : (x == 0)
 ·go_wp2_with fail
  go_ret
  exact ⟨by rw [hx]; rfl, k3⟩
 ·obtain rfl : x = 0 := by simpa using hx
  cases hl : (i.len == (z.length : Int))
  ·go_wp2_with fail
   go_ret
   exact ⟨by rw [hl]; rfl, k3⟩
  ·have zI := in16_size i
   have zK := in16_size k
   go_wp2_with (first | (with_reducible refine load_inG (by kernel_rfl) _ rfl B rfl (in16 i) zI kR ?_) | (with_reducible refine load_inG (by kernel_rfl) _ rfl w.heap.size rfl (in16 k) zK kI3 ?_) | ((with_reducible refine (hS.out _).mono ?_); rintro e W4 ⟨rfl, b4⟩))
   go_ret
   exact ⟨by rw [hl]; rfl, k3.trans (b4.mono k3.size)⟩
end Go.Proofs.YtcgleggdochbeaaDoor
namespace Go.Proofs.YtcgleggdochbeaaDoor
open Go.RowKit
set_option maxRecDepth 100000
set_option maxHeartbeats 8000000
set_option linter.unusedVariables false
set_option linter.unusedSimpArgs false
set_option linter.unusedSectionVars false
def Acc (X : World) (v : Value) : Option (List Int) → Prop
 | none => v = .slice none 0 0
 | some m => ∃ g off c, v = .slice (some ⟨g, off, none⟩) m.length c ∧ Bs X v m
theorem Acc.below {X Y : World} {v : Value} {acc : Option (List Int)} (h : Acc X v acc) (b : Below X.heap.size X Y) : Acc Y v acc := by
 cases acc with
 | none => exact h
 | some m =>
  obtain ⟨g, off, c, e, h⟩ := h
  exact ⟨g, off, c, e, h.below b⟩
theorem tries_pos {r : En} {k : In} : ∀ t ∈ triesE r k, 0 < t.length := by
 intro t ht
 obtain ⟨p, hp, rfl⟩ := List.mem_map.1 ht
 unfold openE
 simp
 omega
theorem getD_mem {L : List (List Int)} {j : Nat} (h : j < L.length) : L.getD j [] ∈ L := by
 rw [List.getD_eq_getElem?_getD, List.getElem?_eq_getElem h]; exact List.getElem_mem h
theorem fold_take {f : Option (List Int) → List Int → Option (List Int)} (a : Option (List Int)) (T : List (List Int)) {j : Nat} (h : j < T.length) : (T.take (j + 1)).foldl f a = f ((T.take j).foldl f a) (T.getD j []) := by
 rw [List.take_add_one, List.foldl_append]
 simp [List.getD_eq_getElem?_getD, h]
theorem nil_yes (W : World) : (binOp .eql 28 (.slice none 0 0) (.slice none 0 0)).run Tryd.prog W = .ok (.bool true) W := by kernel_rfl
theorem nil_no (g off n c : Nat) (W : World) : (binOp .eql 28 (.slice (some ⟨g, off, none⟩) n c) (.slice none 0 0)).run Tryd.prog W = .ok (.bool false) W := by kernel_rfl
def enZ : En := ⟨0, 0, 0, 0⟩
theorem fold_rows {f : Option (List Int) → List Int → Option (List Int)} {g : En → List (List Int)} (a : Option (List Int)) (R : List En) {n : Nat} (h : n < R.length) :
  ((R.take (n + 1)).flatMap g).foldl f a = (g (R.getD n enZ)).foldl f (((R.take n).flatMap g).foldl f a) := by
 rw [List.take_add_one, List.flatMap_append, List.foldl_append]
 simp [List.getD_eq_getElem?_getD, h]
theorem box_len (w : World) (k : In) : Blk (w.alloc (.cells (in16 (withLen k 0)) 26)) w.heap.size 26 (in16 (withLen k 0)) ∧ Below w.heap.size w (w.alloc (.cells (in16 (withLen k 0)) 26)) :=
 ⟨Blk.new w 26 (in16 (withLen k 0)), (Below.refl w.heap.size w).alloc (Nat.le_refl _) _⟩
theorem Encode_none {k : In} (h : isB (withLen k 0) = false) (w : World) (tabs : Tabs w) : Calls Tryd.prog 9 #[inV k] w fun e w' => e = .returned (.tuple #[.slice none 0 0, .int .i64 90]) ∧ Below w.heap.size w w' := by
 obtain ⟨kB, b⟩ := box_len w k
 have hI := Lib.hid (Is_any (withLen k 0) _ (tabs.below b))
 rw [h] at hI
 go_enter Tryd.func9, Tryd.ntmps9
 go_upto_region 2 with fail
 rw [show (#[Value.int .i64 k.op, .int .i64 k.c, .int .i64 k.A.k, .int .i64 k.A.r, .int .u32 k.A.m, .int .i64 k.A.b, .int .i64 k.A.x, .int .u32 k.A.s, .int .i64 k.B.k, .int .i64 k.B.r, .int .u32 k.B.m, .int .i64 k.B.b, .int .i64 k.B.x, .int .u32 k.B.s, .bool k.rep, .int .i64 0] : Array Value) = in16 (withLen k 0) from rfl]
 generalize w.alloc (.cells (in16 (withLen k 0)) 26) = W at *
 go_wp2_with (first | (with_reducible refine load_inR rfl _ rfl w.heap.size (in16 (withLen k 0)) rfl kB (in16_size _) ?_) | ((with_reducible refine hI.out.mono ?_); rintro e W2 ⟨rfl, b2⟩))
 exact bodyPost_ret (v := .tuple #[.slice none 0 0, .int .i64 90]) (by simp [results, Tryd.results9, go_sem]) rfl ⟨rfl, b.trans (b2.mono b.size)⟩
theorem Encode_some {k : In} (h : isB (withLen k 0) = true) (hA : 0 ≤ k.A.m ∧ k.A.m ≤ 4294967295) (hB : 0 ≤ k.B.m ∧ k.B.m ≤ 4294967295) (w : World) (tabs : Tabs w) :
  Calls Tryd.prog 9 #[inV k] w fun e w' => ∃ v, e = .returned (.tuple #[v, .int .i64 0]) ∧ Acc w' v (some (encM k)) ∧ Below w.heap.size w w' := by
 obtain ⟨kB, b⟩ := box_len w k
 have hI := Lib.hid (Is_any (withLen k 0) _ (tabs.below b))
 rw [h] at hI
 have hle := Lib.hid (least_enc h hA hB)
 have hok := OkI.of h hA hB
 have hencM : encM (withLen k 0) = encM k := rfl
 rw [hencM] at hle
 generalize encM k = best at *
 have hop := taken_in (op := k.op) (c := k.c) (A := k.A) (B := k.B) (rep := k.rep) (l := 0) h
 obtain ⟨n, hn⟩ := Int.eq_ofNat_of_zero_le (show 0 ≤ k.op by omega)
 have hR := Lib.hid (fun W => rowsOf_any n (by omega) W)
 have hRok := rowsE_ok k.op
 have hRlen : (rowsE k.op).length ≤ 100 := by
  have : ∀ n : Nat, n < 54 → (rowsE (n : Int)).length ≤ 100 := of_decide_eq_true (by kernel_rfl)
  rw [hn]; exact this n (by omega)
 have hcand : candsE (withLen k 0) = (rowsE k.op).flatMap (fun r => triesE r (withLen k 0)) := rfl
 rw [hcand] at hle
 rw [← hn] at hR
 clear hcand hencM hn
 generalize rowsE k.op = R at *
 go_enter Tryd.func9, Tryd.ntmps9
 go_upto_region 2 with fail
 rw [show (#[Value.int .i64 k.op, .int .i64 k.c, .int .i64 k.A.k, .int .i64 k.A.r, .int .u32 k.A.m, .int .i64 k.A.b, .int .i64 k.A.x, .int .u32 k.A.s, .int .i64 k.B.k, .int .i64 k.B.r, .int .u32 k.B.m, .int .i64 k.B.b, .int .i64 k.B.x, .int .u32 k.B.s, .bool k.rep, .int .i64 0] : Array Value) = in16 (withLen k 0) from rfl]
 generalize w.alloc (.cells (in16 (withLen k 0)) 26) = W at *
 have c0 := kB.cell (i := 0) (v := .int .i64 k.op) rfl
 go_upto_region 5 with (first | (with_reducible refine load_inR rfl _ rfl w.heap.size (in16 (withLen k 0)) rfl kB (in16_size _) ?_) | ((with_reducible refine hI.out.mono ?_); rintro e W2 ⟨rfl, b2⟩))
 clear c0
 have b3 := b.trans (b2.mono b.size)
 have kB2 := kB.below b2 kB.lt
 have c0 := kB2.cell (i := 0) (v := .int .i64 k.op) rfl
 go_wp2_with ((with_reducible refine (hR.out _).mono ?_); rintro e W3 ⟨vR, rfl, oR, b4⟩; obtain ⟨gR, cR, rfl, hcR, hcR2, hgR⟩ := oR.lens)
 clear hI hR c0
 have kB3 := kB2.below b4 kB2.lt
 have b5 := b3.trans (b4.mono b3.size)
 go_loopw [4, 17] (fun vv ii X => ∃ (n : Nat) (acc : Option (List Int)), n ≤ R.length ∧ ii = .int .i64 n ∧ Acc X vv acc ∧ RowKit.Hid (acc = ((R.take n).flatMap (fun r => triesE r (withLen k 0))).foldl (stepE (withLen k 0)) none) ∧ Below W3.heap.size W3 X) (fun _ ii _ => R.length - (intOf ii).toNat)
 case atStart => exact ⟨0, none, by omega, rfl, rfl, Lib.hid rfl, Below.refl _ _⟩
 case round =>
  obtain ⟨n, acc, hn, rfl, hacc, hfold, bx⟩ := hrel
  by_cases hlt : n < R.length
  ·have h1 : ((n : Int) < (R.length : Int)) = True := eq_true (by omega)
   have hwr : IntKind.i64.wrap ((n : Int) + 1) = (n : Int) + 1 := by rw [IntKind.wrap_i64]; omega
   obtain ⟨hnil, -, -⟩ | ⟨G, rfl, hG, hc⟩ := hgR
   ·rw [hnil] at hlt; exact absurd hlt (by simp)
   have hr := OkE.of (hRok (R.getD n enZ) (by rw [List.getD_eq_getElem?_getD, List.getElem?_eq_getElem hlt]; exact List.getElem_mem hlt))
   have hat : R[n]? = some (R.getD n enZ) := by rw [List.getD_eq_getElem?_getD, List.getElem?_eq_getElem hlt]; rfl
   have hcell : ∀ j : Nat, j < 4 → ∀ u, (enC (R.getD n enZ))[j]? = some u → wr.cell? ⟨G, n * 4 + j, none⟩ = some u := fun j hj u hu => by
    have hb := bx.block G hG
    have := hc (n * 4 + j) u ((enL_at R hj _ hat).trans hu)
    simp only [World.cell?, hb] at this ⊢
    exact this
   have hfr := Lib.hid (fold_rows (f := stepE (withLen k 0)) (g := fun r => triesE r (withLen k 0)) none R hlt)
   generalize R.getD n enZ = r at *
   have d0 := hcell 0 (by omega) (.int .i64 r.code) rfl
   have d1 := hcell 1 (by omega) (.int .i64 r.num) rfl
   have d2 := hcell 2 (by omega) (.int .i64 r.a) rfl
   have d3 := hcell 3 (by omega) (.int .i64 r.b) rfl
   rw [Nat.add_zero] at d0
   clear hcell hc
   go_upto_region 8 with fail
   rw [show (#[Value.int .i64 r.code, .int .i64 r.num, .int .i64 r.a, .int .i64 r.b] : Array Value) = enC r from rfl]
   have kE := Blk.new wr 52 (enC r)
   have b6 := (Below.refl wr.heap.size wr).alloc (Nat.le_refl _) (.cells (enC r) 52)
   have kB4 := (kB3.below bx kB3.lt).below b6 (Nat.lt_of_lt_of_le kB3.lt bx.size)
   have hacc6 := hacc.below b6
   generalize wr.alloc (.cells (enC r) 52) = Y at *
   clear d0 d1 d2 d3 hat
   have hT := Lib.hid (fun W => tries_any hr hok W)
   have hTp := tries_pos (r := r) (k := withLen k 0)
   have hTl : (triesE r (withLen k 0)).length ≤ 6 := by unfold triesE; rw [List.length_map]; exact places_len.1
   generalize hTT : triesE r (withLen k 0) = T at *
   have HTT := Lib.hid hTT
   clear hTT
   go_wp2_with (first | (with_reducible refine load_en rfl _ rfl wr.heap.size r rfl kE ?_) | (with_reducible refine load_inR rfl _ rfl w.heap.size (in16 (withLen k 0)) rfl kB4 (in16_size _) ?_) | ((with_reducible refine (hT.out _).mono ?_); rintro e Y2 ⟨vT, rfl, LT, bT⟩; obtain ⟨aT, cT, rfl, hgT⟩ := LT.lens))
   clear hT
   have b7 := b6.trans (bT.mono b6.size)
   have kB5 := kB4.below bT kB4.lt
   go_loopw [4, 25] (fun vv jj X => ∃ (j : Nat) (ac : Option (List Int)), j ≤ T.length ∧ jj = .int .i64 j ∧ Acc X vv ac ∧ RowKit.Hid (ac = (T.take j).foldl (stepE (withLen k 0)) acc) ∧ Below Y2.heap.size Y2 X) (fun _ jj _ => T.length - (intOf jj).toNat)
   case atStart => exact ⟨0, acc, by omega, rfl, hacc6.below bT, Lib.hid rfl, Below.refl _ _⟩
   case round =>
    obtain ⟨j, ac, hj, rfl, hac, hf2, b8⟩ := hrel
    by_cases hjl : j < T.length
    ·have h2 : ((j : Int) < (T.length : Int)) = True := eq_true (by omega)
     have hwr2 : IntKind.i64.wrap ((j : Int) + 1) = (j : Int) + 1 := by rw [IntKind.wrap_i64]; have := hTl; omega
     have LT2 := LT.below b8
     obtain ⟨a3, c3, e3, hg3⟩ := LT2.lens
     simp only [Value.slice.injEq, true_and] at e3
     obtain ⟨rfl, rfl⟩ := e3
     obtain ⟨G2, rfl, hG2⟩ := hg3 (by omega)
     obtain ⟨u, hcu, hbu⟩ := hG2 j hjl
     have hzp := hTp _ (getD_mem hjl)
     have hft := fold_take (f := stepE (withLen k 0)) acc T hjl
     rw [← hf2.out] at hft
     have HFT := Lib.hid hft
     clear hft hG2 hg3 hgT
     generalize T.getD j [] = z at *
     obtain ⟨za, zc, ez, hzc1, hzc2, hzz⟩ := hbu.at'
     obtain ⟨g5, off5, rfl, -⟩ := hzz hzp
     subst ez
     have kB6 := kB5.below b8 kB5.lt
     have tabs2 := tabs.below ((b5.trans (bx.mono b5.size)).trans ((b7.trans (b8.mono b7.size)).mono (Nat.le_trans b5.size bx.size)))
     have hM0 := means_any hbu (withLen k 0) tabs2
     have hS0 : stepE (withLen k 0) ac z = if meansE z (withLen k 0) = true then betterW ac z else ac := rfl
     have b9 : ∀ X, Below wr.heap.size wr X → Below Y2.heap.size Y2 X := fun X bb => b8.trans (bb.mono b8.size)
     cases hm : meansE z (withLen k 0)
     ·rw [hm] at hM0 hS0
      have hM := Lib.hid hM0
      rw [HFT.out.symm] at hS0
      have HS := Lib.hid hS0
      clear hM0 hS0 hm HFT
      have zK := in16_size (withLen k 0)
      go_wp2_with (first | (with_reducible refine load_inR rfl _ rfl w.heap.size (in16 (withLen k 0)) rfl kB6 zK ?_) | ((with_reducible refine hM.out.mono ?_); rintro e X1 ⟨rfl, bm⟩))
      go_roundw
      case rel => exact ⟨j + 1, ac, by omega, by go_num, hac.below bm, Lib.hid (by rw [HS.out]; rfl), b9 _ bm⟩
      case measure => simp [intOf]; omega
     ·rw [hm] at hM0 hS0
      have hM := Lib.hid hM0
      rw [HFT.out.symm] at hS0
      have HS := Lib.hid hS0
      clear hM0 hS0 hm HFT
      have zK := in16_size (withLen k 0)
      cases ac with
      | none =>
       have hN := nil_yes
       have hv := hac
       unfold Acc at hv
       subst hv
       go_wp2_with (first | (with_reducible refine load_inR rfl _ rfl w.heap.size (in16 (withLen k 0)) rfl kB6 zK ?_) | ((with_reducible refine hM.out.mono ?_); rintro e X1 ⟨rfl, bm⟩))
       go_roundw
       case rel => exact ⟨j + 1, some z, by omega, by go_num, ⟨_, _, _, rfl, hbu.below bm⟩, Lib.hid (by rw [HS.out]; rfl), b9 _ bm⟩
       case measure => simp [intOf]; omega
      | some m =>
       obtain ⟨mg, moff, mc, rfl, hbm⟩ := hac
       have hN := nil_no mg moff m.length mc
       have hA0 := fun X (bb : Below wr.heap.size wr X) => ahead_any (hbu.below bb) (hbm.below bb)
       cases hq : ltW z m
       ·rw [hq] at hA0
        have hAh := Lib.hid hA0
        have hb : betterW (some m) z = some m := by simp [betterW, hq]
        clear hA0 hq
        go_wp2_with (first | (with_reducible refine load_inR rfl _ rfl w.heap.size (in16 (withLen k 0)) rfl kB6 zK ?_) | ((with_reducible refine hM.out.mono ?_); rintro e X1 ⟨rfl, bm⟩) | ((with_reducible refine (hAh.out _ bm).mono ?_); rintro e X2 ⟨rfl, bn⟩))
        go_roundw
        case rel => exact ⟨j + 1, some m, by omega, by go_num, ⟨_, _, _, rfl, (hbm.below bm).below bn⟩, Lib.hid (by rw [HS.out]; exact hb.symm), b9 _ (bm.trans (bn.mono bm.size))⟩
        case measure => simp [intOf]; omega
       ·rw [hq] at hA0
        have hAh := Lib.hid hA0
        have hb : betterW (some m) z = some z := by simp [betterW, hq]
        clear hA0 hq
        go_wp2_with (first | (with_reducible refine load_inR rfl _ rfl w.heap.size (in16 (withLen k 0)) rfl kB6 zK ?_) | ((with_reducible refine hM.out.mono ?_); rintro e X1 ⟨rfl, bm⟩) | ((with_reducible refine (hAh.out _ bm).mono ?_); rintro e X2 ⟨rfl, bn⟩))
        go_roundw
        case rel => exact ⟨j + 1, some z, by omega, by go_num, ⟨_, _, _, rfl, (hbu.below bm).below bn⟩, Lib.hid (by rw [HS.out]; exact hb.symm), b9 _ (bm.trans (bn.mono bm.size))⟩
        case measure => simp [intOf]; omega
    ·have h2 : ((j : Int) < (T.length : Int)) = False := eq_false (by omega)
     obtain rfl : j = T.length := by omega
     have hf3 := hf2.out
     rw [List.take_length] at hf3
     go_wp2_with fail
     go_roundw
     case rel => exact ⟨n + 1, ac, by omega, by go_num, hac, Lib.hid (by rw [hfr.out, ← hfold.out]; exact hf3), bx.trans ((b7.trans (b8.mono b7.size)).mono bx.size)⟩
     case measure => simp [intOf]; omega
  ·have h1 : ((n : Int) < (R.length : Int)) = False := eq_false (by omega)
   obtain rfl : n = R.length := by omega
   have hf3 := hfold.out
   rw [List.take_length, hle.out] at hf3
   subst hf3
   obtain ⟨mg, moff, mc, rfl, hbm⟩ := hacc
   have hN := nil_no mg moff best.length mc
   go_wp2_with fail
   exact bodyPost_ret (v := .tuple #[.slice (some ⟨mg, moff, none⟩) best.length mc, .int .i64 0]) (by simp [results, Tryd.results9, go_sem]) rfl ⟨_, rfl, ⟨_, _, _, rfl, hbm⟩, b5.trans (bx.mono b5.size)⟩
end Go.Proofs.YtcgleggdochbeaaDoor
namespace Go.Proofs.YtcgleggdochbeaaDoor
open Go.RowKit
set_option maxRecDepth 100000
set_option maxHeartbeats 8000000
set_option linter.unusedVariables false
set_option linter.unusedSimpArgs false
set_option linter.unusedSectionVars false
def isE (k : In) : Bool := isB (withLen k 0)
structure Wd (k : In) : Prop where
 A : 0 ≤ k.A.m ∧ k.A.m ≤ 4294967295
 B : 0 ≤ k.B.m ∧ k.B.m ≤ 4294967295
def lenE (k : In) : Int := if isE k = true then ((encM k).length : Int) else 0
def bytesE (k : In) : List Int := if isE k = true then encM k else []
def errE (k : In) : Int := if isE k = true then 0 else 90
theorem Encode_any {k : In} (hk : Wd k) (w : World) (tabs : Tabs w) : Calls Tryd.prog 9 #[inV k] w fun e w' => ∃ v, e = .returned (.tuple #[v, .int .i64 (errE k)]) ∧ Bs w' v (bytesE k) ∧ Below w.heap.size w w' := by
 unfold errE bytesE
 cases h : isE k
 ·exact (Encode_none h w tabs).mono fun e w' ⟨h1, h2⟩ => ⟨_, h1, Bs.nil _, h2⟩
 ·exact (Encode_some h hk.A hk.B w tabs).mono fun e w' ⟨v, h1, ⟨_, _, _, _, h2⟩, h3⟩ => ⟨v, h1, h2, h3⟩
theorem lenE_bytes (k : In) : lenE k = ((bytesE k).length : Int) := by unfold lenE bytesE; split <;> rfl
theorem Len_any {k : In} (hk : Wd k) (w : World) (tabs : Tabs w) : Calls Tryd.prog 11 #[inV k] w fun e w' => e = .returned (.int .i64 (lenE k)) ∧ Below w.heap.size w w' := by
 have b := (Below.refl w.heap.size w).alloc (Nat.le_refl _) (.cells (in16 k) 26)
 have kB := Blk.new w 26 (in16 k)
 have hE := Lib.hid (Encode_any hk _ (tabs.below b))
 rw [lenE_bytes]
 generalize bytesE k = z at *
 generalize errE k = x at *
 go_enter Tryd.func11, Tryd.ntmps11
 go_upto_region 1 with fail
 generalize w.alloc (.cells (in16 k) 26) = W at *
 go_wp2_with (first | (with_reducible refine load_inR rfl _ rfl w.heap.size (in16 k) rfl kB (in16_size _) ?_) | ((with_reducible refine hE.out.mono ?_); rintro e W2 ⟨v, rfl, ⟨a, c, rfl, hb⟩, b2⟩))
 go_ret
 exact ⟨rfl, b.trans (b2.mono b.size)⟩
theorem append_more {ops : Array Oper} {rest : List Oper} {o : Oper} {a : Act} {w : World} {Q : Exit → Act → World → Prop} (hgd : o.guard = none) (s x : Operand)
  (ho : o.op = .call { callee := .builtin .append, args := #[s, x], argTypes := #[28, 28] })
  (N : Nat) (v : Value) (xs ys : List Int) (hs : a.eval s = v) (h : Own w N v xs) (hN : N ≤ w.heap.size)
  (b : Option Addr) (m c : Nat) (hx : a.eval x = .slice b m c) (B : Ba w b m c ys) (hl : xs.length + ys.length ≤ 100000)
  (k : ∀ v' w', Own w' N v' (xs ++ ys) → Below N w w' → wpList Tryd.prog ops Q rest (a.put o.dst v') w') : wpList Tryd.prog ops Q (o :: rest) a w := by
 obtain ⟨i, hi, hz, hsz, hby⟩ := info_u8
 have hrow : ∀ k, v.ownBlock = some k → N ≤ k := fun k hk => (h.row.lt k hk).1
 obtain ⟨hl2, hb2, hr⟩ := B.row
 have fin : ∀ v' w', w'.ownsRow N 5 1 v' (xs.length + ys.length) (xs.map (Value.int .u8) ++ ys.map (Value.int .u8)) → w.grownBy w' v.ownBlock → wpList Tryd.prog ops Q rest (a.put o.dst v') w' := by
  intro v' w' h1 h2
  refine k v' w' ⟨fun z hz => ?_, ?_⟩ (grown_below h2 hN hrow)
  ·rcases List.mem_append.1 hz with h3 | h3
   ·exact h.bd z h3
   ·exact hb2 z h3
  ·rw [List.length_append, List.map_append]; exact h1
 rcases hr with rfl | ⟨g, off, rfl, -, hc⟩
 ·have h0 : m = 0 := by simpa using hl2.symm
  subst h0
  cases b with
  | none =>
   obtain rfl := B.nn rfl
   exact wpList_append_own_none hgd s x 28 ho N 5 i 1 Tryd.underlying28 hi v xs.length _ hs h.row hx (k v w (by rw [List.append_nil]; exact h) (Below.refl _ _))
  | some ad =>
   exact wpList_append_own w hgd s x 28 ho N 5 i (.int .u8 0) 1 1 Tryd.underlying28 hi hz hsz hby rfl (by decide) v xs.length (xs.map (Value.int .u8)) hs h.row ad 0 c [] hx (by simp) (by simp) (by simp) (by simp only [maxLen]; simp at hl; omega) (by simp at hl; omega) hN (fun v' w' h1 h2 _ => fin v' w' (by simpa using h1) h2)
 ·refine wpList_append_own w hgd s x 28 ho N 5 i (.int .u8 0) 1 1 Tryd.underlying28 hi hz hsz hby rfl (by decide) v xs.length (xs.map (Value.int .u8)) hs h.row ⟨g, off, none⟩ m c (ys.map (Value.int .u8)) hx (by simp [hl2]) (fun j u hj => ?_) (by simp [Value.oneCell']) (by simp only [maxLen]; omega) (by omega) hN (fun v' w' h1 h2 _ => fin v' w' (by rw [hl2]; exact h1) h2)
  have hj2 : j < ys.length := by
   have := (List.getElem?_eq_some_iff.1 hj).1
   simpa using this
  have e : (⟨g, off, none⟩ : Addr).add j = ⟨g, off + j, none⟩ := by unfold Addr.add; split <;> simp_all
  rw [e, hc j (by omega), ← hj]
  simp [List.getD_eq_getElem?_getD, hj2]
def Il (W : World) (v : Value) (ks : List In) : Prop :=
 ∃ a c, v = .slice a ks.length c ∧ (ks = [] ∨ ∃ g off, a = some ⟨g, off, none⟩ ∧ g < W.heap.size ∧ ∀ i k, ks[i]? = some k → W.rangeAt g (off + i * 16) (in16 k).toList)
theorem Il.below {W W' : World} {v : Value} {ks : List In} (h : Il W v ks) (b : Below W.heap.size W W') : Il W' v ks := by
 obtain ⟨a, c, e, h⟩ := h
 refine ⟨a, c, e, ?_⟩
 rcases h with h | ⟨g, off, e, hg, hr⟩
 ·exact .inl h
 ·refine .inr ⟨g, off, e, Nat.lt_of_lt_of_le hg b.size, fun i k hk j u hu => ?_⟩
  have := hr i k hk j u hu
  simp only [World.cell?, b.block g hg] at this ⊢
  exact this
theorem load_in_mid {ops : Array Oper} {rest : List Oper} {o : Oper} {a : Act} {w : World} {Q : Exit → Act → World → Prop} (hgd : o.guard = none) (x : Operand) (ho : o.op = .load 26 x)
  (b off : Nat) (k : In) (hx : a.eval x = .pointer (some ⟨b, off, none⟩)) (hR : w.rangeAt b off (in16 k).toList)
  (h : wpList Tryd.prog ops Q rest (a.put o.dst (inV k)) w) : wpList Tryd.prog ops Q (o :: rest) a w :=
 wpList_load_mid hgd 26 x ho b off hx (in16 k).toList _ hR Tryd.underlying26 rfl (by kernel_rfl) (by simpa using h)
def flatE (ks : List In) : List Int := ks.flatMap encM
theorem bytes_len {k : In} (hk : Wd k) : (bytesE k).length ≤ 12 := by
 unfold bytesE
 split
 ·rename_i h
  exact (enc_read (k := withLen k 0) h hk.A hk.B []).2.2
 ·simp
theorem flat_take (ks : List In) {n : Nat} {k : In} (h : ks[n]? = some k) : flatE (ks.take (n + 1)) = flatE (ks.take n) ++ encM k := by
 unfold flatE
 rw [List.take_add_one, List.flatMap_append, h]
 simp
theorem flat_bd (ks : List In) (hks : ∀ k ∈ ks, Wd k) (hall : ∀ k ∈ ks, isE k = true) : (flatE ks).length ≤ 12 * ks.length := by
 induction ks with
 | nil => simp [flatE]
 | cons k ks ih =>
  have h1 := bytes_len (hks k (by simp))
  have h2 := ih (fun k hk => hks k (by simp [hk])) (fun k hk => hall k (by simp [hk]))
  unfold bytesE at h1
  rw [if_pos (hall k (by simp))] at h1
  have e : flatE (k :: ks) = encM k ++ flatE ks := by unfold flatE; rw [List.flatMap_cons]
  rw [e, List.length_append, List.length_cons]
  omega
theorem All_any {w : World} {v : Value} {ks : List In} (hI : Il w v ks) (hks : ∀ k ∈ ks, Wd k) (hlen : ks.length ≤ 1000) (tabs : Tabs w) : Calls Tryd.prog 14 #[v] w fun e w' =>
  ∃ u x, e = .returned (.tuple #[u, .int .i64 x]) ∧ ((x = 0 ∧ (∀ k ∈ ks, isE k = true) ∧ Own w' w.heap.size u (flatE ks)) ∨ (x = 90 ∧ u = .slice none 0 0 ∧ ∃ k ∈ ks, isE k = false)) ∧ Below w.heap.size w w' := by
 obtain ⟨a, c, rfl, hr⟩ := hI
 go_enter Tryd.func14, Tryd.ntmps14
 go_wp2_with fail
 go_loopw [4, 11] (fun vv ii X => ∃ n : Nat, n ≤ ks.length ∧ ii = .int .i64 n ∧ Own X w.heap.size vv (flatE (ks.take n)) ∧ RowKit.Hid (∀ k ∈ ks.take n, isE k = true) ∧ Below w.heap.size w X) (fun _ ii _ => ks.length - (intOf ii).toNat)
 case atStart => exact ⟨0, by omega, rfl, Own.nil _ _, Lib.hid (by simp), Below.refl _ _⟩
 case round =>
  obtain ⟨n, hn, rfl, hO, hall, b⟩ := hrel
  by_cases hlt : n < ks.length
  ·have h1 : ((n : Int) < (ks.length : Int)) = True := eq_true (by omega)
   have hwr : IntKind.i64.wrap ((n : Int) + 1) = (n : Int) + 1 := by rw [IntKind.wrap_i64]; omega
   obtain ⟨k, hk⟩ : ∃ k, ks[n]? = some k := ⟨ks[n], List.getElem?_eq_getElem hlt⟩
   have hmem : k ∈ ks := List.mem_of_getElem? hk
   obtain hr | ⟨g, off, rfl, hg, hr⟩ := hr
   ·rw [hr] at hlt; exact absurd hlt (by simp)
   have hR : wr.rangeAt g (off + n * 16) (in16 k).toList := fun j u hu => by
    have := hr n k hk j u hu
    simp only [World.cell?, b.block g hg] at this ⊢
    exact this
   have hb : (flatE (ks.take n)).length + (bytesE k).length ≤ 100000 := by
    have h2 := flat_bd (ks.take n) (fun k hk => hks k (List.mem_of_mem_take hk)) hall.out
    have h3 := bytes_len (hks k hmem)
    rw [List.length_take] at h2
    omega
   have hft := flat_take ks hk
   have htk : ks.take (n + 1) = ks.take n ++ [k] := by rw [List.take_add_one, hk]; rfl
   have hE := Lib.hid (fun X (bb : Below w.heap.size w X) => Encode_any (hks k hmem) X (tabs.below bb))
   clear hr
   cases hi : isE k
   ·unfold errE at hE
    rw [hi] at hE
    have HI := Lib.hid hi
    clear hi
    go_wp2_with (first | (with_reducible refine load_in_mid rfl _ rfl g (off + n * 16) k rfl hR ?_) | ((with_reducible refine store_in_as rfl _ _ rfl (in16 k) (in16_size _) (in16_one _) rfl rfl ?_); intro W3 kI b3; have b4 := b.trans (b3.mono b.size)) | (with_reducible refine load_inR rfl _ rfl wr.heap.size (in16 k) rfl kI (in16_size _) ?_) | ((with_reducible refine (hE.out _ b4).mono ?_); rintro e W4 ⟨x, rfl, hx, b5⟩))
    exact bodyPost_ret (v := .tuple #[.slice none 0 0, .int .i64 90]) (by simp [results, Tryd.results14, go_sem]) rfl ⟨_, _, rfl, .inr ⟨rfl, rfl, k, hmem, HI.out⟩, b4.trans (b5.mono b4.size)⟩
   ·have hz : bytesE k = encM k := by unfold bytesE; rw [if_pos hi]
    unfold errE at hE
    rw [hi, hz] at hE
    rw [hz] at hb
    have hnext : ∀ q ∈ ks.take (n + 1), isE q = true := by
     rw [htk]
     intro q hq
     rcases List.mem_append.1 hq with h | h
     ·exact hall.out q h
     ·obtain rfl := List.mem_singleton.1 h; exact hi
    have HN := Lib.hid hnext
    have HT := Lib.hid hft
    clear hi hz hnext hft htk
    generalize flatE (ks.take n) = xs at *
    generalize encM k = ys at *
    have HB := Lib.hid hb
    clear hb
    go_wp2_with (first | (with_reducible refine load_in_mid rfl _ rfl g (off + n * 16) k rfl hR ?_) | ((with_reducible refine store_in_as rfl _ _ rfl (in16 k) (in16_size _) (in16_one _) rfl rfl ?_); intro W3 kI b3; have b4 := b.trans (b3.mono b.size)) | (with_reducible refine load_inR rfl _ rfl wr.heap.size (in16 k) rfl kI (in16_size _) ?_) | ((with_reducible refine (hE.out _ b4).mono ?_); rintro e W4 ⟨x, rfl, ⟨xa, xc, rfl, hx⟩, b5⟩; have hO4 := (hO.below b3).below b5; have b6 := b4.trans (b5.mono b4.size)) | (at_builtin; refine append_more rfl _ _ rfl w.heap.size _ xs ys rfl hO4 b6.size xa _ xc rfl hx HB.out ?_; intro v7 W7 O7 b7))
    go_roundw
    case rel => exact ⟨n + 1, by omega, by go_num, by rw [HT.out]; exact O7, HN, b6.trans b7⟩
    case measure => simp [intOf]; omega
  ·have h1 : ((n : Int) < (ks.length : Int)) = False := eq_false (by omega)
   obtain rfl : n = ks.length := by omega
   rw [List.take_length] at hO hall
   go_wp2_with fail
   exact bodyPost_ret (by simp [results, Tryd.results14, go_sem]) rfl ⟨_, _, rfl, .inl ⟨rfl, hall.out, hO⟩, b⟩
end Go.Proofs.YtcgleggdochbeaaDoor
namespace Go.Proofs.YtcgleggdochbeaaDoor
open Go.RowKit
set_option maxRecDepth 100000
set_option maxHeartbeats 8000000
set_option linter.unusedVariables false
set_option linter.unusedSimpArgs false
set_option linter.unusedSectionVars false
def strB (zs : List Int) : ByteArray := zs.foldl (fun r n => r.push (UInt8.ofNat n.toNat)) ByteArray.empty
theorem fold_pushB (ns : List Int) : ∀ s : ByteArray, ns.foldl (fun r n => r.push (UInt8.ofNat n.toNat)) s = ⟨s.data ++ (ns.map fun n => UInt8.ofNat n.toNat).toArray⟩ := by
 induction ns with
 | nil => intro s; simp
 | cons n ns ih => intro s; simp only [List.foldl_cons, ih]; simp [ByteArray.push]
theorem strB_list (zs : List Int) : (strB zs).toList = zs.map (fun n => UInt8.ofNat n.toNat) := by
 unfold strB
 rw [fold_pushB, ByteArray.toList_eq]
 simp
theorem conv_bs {W : World} {v : Value} {zs : List Int} (h : Bs W v zs) : (convert 28 9 v).run Tryd.prog W = .ok (.string (strB zs)) W := by
 obtain ⟨a, c, rfl, ⟨h1, h2, h3⟩, -⟩ := h
 rw [run_convert_bytes_string W _ _ 5 _ _ _ (by kernel_rfl) (by kernel_rfl) (by kernel_rfl)]
 rcases h3 with rfl | ⟨b, off, rfl, hlt, hc⟩
 ·cases a <;> simp [Conv.bytesToString, Sem.run_pure, strB, loadCells, loadCellsFrom]
 ·have hld := run_loadCells_list (P := Tryd.prog) W ⟨b, off, none⟩ (zs.map (Value.int .u8)) (fun j v hj => by
   have hj2 : j < zs.length := by have := (List.getElem?_eq_some_iff.1 hj).1; simpa using this
   have e : (⟨b, off, none⟩ : Addr).add j = ⟨b, off + j, none⟩ := by unfold Addr.add; split <;> simp_all
   rw [e, hc j (by omega), ← hj]
   simp [List.getD_eq_getElem?_getD, hj2])
  rw [show (zs.map (Value.int .u8)).length = zs.length by rw [List.length_map]] at hld
  exact run_bytesToString W _ _ _ _ hld
theorem Encode_at {k : In} (hk : Wd k) {x : Int} {z : List Int} (hx : errE k = x) (hz : bytesE k = z) (w : World) (tabs : Tabs w) : Calls Tryd.prog 9 #[inV k] w fun e w' => ∃ v, e = .returned (.tuple #[v, .int .i64 x]) ∧ Bs w' v z ∧ Below w.heap.size w w' := by
 subst hx hz
 exact Encode_any hk w tabs
theorem Len_at {k : In} (hk : Wd k) {x : Int} (hx : lenE k = x) (w : World) (tabs : Tabs w) : Calls Tryd.prog 11 #[inV k] w fun e w' => e = .returned (.int .i64 x) ∧ Below w.heap.size w w' := by
 subst hx
 exact Len_any hk w tabs
def inL (ks : List In) : List Value := ks.flatMap (fun k => (in16 k).toList)
theorem inL_at (ks : List In) : ∀ {i j : Nat}, j < 16 → ∀ (k : In), ks[i]? = some k → (inL ks)[i * 16 + j]? = (in16 k)[j]? := by
 induction ks with
 | nil => intro i j hj k hi; simp at hi
 | cons q ks ih =>
  intro i j hj k hi
  have e : inL (q :: ks) = (in16 q).toList ++ inL ks := by unfold inL; rw [List.flatMap_cons]
  rw [e]
  cases i with
  | zero =>
   simp only [List.getElem?_cons_zero, Option.some.injEq] at hi
   subst hi
   rw [List.getElem?_append_left (by simp; omega), Nat.zero_mul, Nat.zero_add]
   simp
  | succ i =>
   simp only [List.getElem?_cons_succ] at hi
   rw [List.getElem?_append_right (by simp; omega), ← ih hj k hi]
   congr 1
   simp; omega
theorem Il.new (W : World) (ks : List In) (hl : ks.length ≤ 1000) {cells : Array Value} (hc : cells = (inL ks).toArray) : Il (W.alloc (.cells cells 26)) (.slice (some ⟨W.heap.size, 0, none⟩) ks.length ks.length) ks := by
 refine ⟨_, _, rfl, .inr ⟨W.heap.size, 0, rfl, by simp, fun i k hk j u hu => ?_⟩⟩
 refine (Blk.new W 26 cells).cell ?_
 have hj : j < 16 := by have := (List.getElem?_eq_some_iff.1 hu).1; simpa using this
 have := inL_at ks hj k hk
 rw [hc, Nat.zero_add]
 simp only [List.getElem?_toArray]
 rw [this]
 simpa using hu
theorem known_any (w : World) (tabs : Tabs w) : Calls Tryd.prog 8 #[] w fun e w' => e = .returned (.bool true) ∧ Below w.heap.size w w' := by
 have w1 : Wd ⟨1, 0, onReg 0, onImm 1, false, 0⟩ := ⟨by decide, by decide⟩
 have w0 : Wd ⟨0, 0, onZ, onZ, false, 0⟩ := ⟨by decide, by decide⟩
 have wn : Wd ⟨44, 0, onZ, onZ, false, 0⟩ := ⟨by decide, by decide⟩
 have wr : Wd ⟨31, 0, onZ, onZ, false, 0⟩ := ⟨by decide, by decide⟩
 have wc : Wd ⟨38, 0, onZ, onZ, false, 0⟩ := ⟨by decide, by decide⟩
 go_enter Tryd.func8, Tryd.ntmps8
 go_wp2_with fail
 refine (Encode_at w1 (x := 0) (z := [184, 1, 0, 0, 0]) (by kernel_rfl) (by kernel_rfl) w tabs).mono ?_
 rintro e W1 ⟨v1, rfl, B1, b1⟩
 have t1 := tabs.below b1
 go_wp2_with fail
 refine (Encode_at w0 (x := 90) (z := []) (by kernel_rfl) (by kernel_rfl) W1 t1).mono ?_
 rintro e W2 ⟨v2, rfl, B2, b2⟩
 have b12 := b1.trans (b2.mono b1.size)
 have t2 := tabs.below b12
 go_wp2_with fail
 have hI := Il.new W2 [⟨44, 0, onZ, onZ, false, 0⟩, ⟨31, 0, onZ, onZ, false, 0⟩] (by decide) rfl
 have b3 := (Below.refl W2.heap.size W2).alloc (Nat.le_refl _) (.cells (inL [⟨44, 0, onZ, onZ, false, 0⟩, ⟨31, 0, onZ, onZ, false, 0⟩]).toArray 26)
 have hw2 : ∀ k ∈ [(⟨44, 0, onZ, onZ, false, 0⟩ : In), ⟨31, 0, onZ, onZ, false, 0⟩], Wd k := by
  intro k hk
  simp only [List.mem_cons, List.not_mem_nil, or_false] at hk
  rcases hk with rfl | rfl
  ·exact wn
  ·exact wr
 refine (All_any hI hw2 (by decide) (t2.below b3)).mono ?_
 rintro e W4 ⟨v3, x3, rfl, h3, b4⟩
 have h3 : x3 = 0 ∧ Bs W4 v3 [144, 195] := by
  rcases h3 with ⟨h, -, ho⟩ | ⟨-, -, k, hk, h⟩
  ·refine ⟨h, ?_⟩
   have e : flatE [⟨44, 0, onZ, onZ, false, 0⟩, ⟨31, 0, onZ, onZ, false, 0⟩] = [144, 195] := by kernel_rfl
   rw [e] at ho
   exact ho.bs
  ·simp only [List.mem_cons, List.not_mem_nil, or_false] at hk
   rcases hk with rfl | rfl
   ·exact absurd h (by rw [show isE ⟨44, 0, onZ, onZ, false, 0⟩ = true by kernel_rfl]; simp)
   ·exact absurd h (by rw [show isE ⟨31, 0, onZ, onZ, false, 0⟩ = true by kernel_rfl]; simp)
 obtain ⟨rfl, B3⟩ := h3
 have b24 := b3.trans (b4.mono b3.size)
 have b14 := b12.trans (b24.mono b12.size)
 have t4 := tabs.below b14
 have s1 := conv_bs ((B1.below b2).below b24)
 rw [show strB [184, 1, 0, 0, 0] = ⟨#[184, 1, 0, 0, 0]⟩ by kernel_rfl] at s1
 have s3 := conv_bs B3
 rw [show strB [144, 195] = ⟨#[144, 195]⟩ by kernel_rfl] at s3
 go_wp2_with fail
 refine (Len_at wc (x := 1) (by kernel_rfl) W4 t4).mono ?_
 rintro e W5 ⟨rfl, b5⟩
 have b15 := b14.trans (b5.mono b14.size)
 go_wp2_with fail
 refine (Len_at w0 (x := 0) (by kernel_rfl) W5 (tabs.below b15)).mono ?_
 rintro e W6 ⟨rfl, b6⟩
 go_wp2_with fail
 go_ret
 exact ⟨rfl, b15.trans (b6.mono b15.size)⟩
end Go.Proofs.YtcgleggdochbeaaDoor
