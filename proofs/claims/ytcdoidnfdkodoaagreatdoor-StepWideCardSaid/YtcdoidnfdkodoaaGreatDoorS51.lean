import Derived.Test.YtcdoidnfdkodoaaGreatDoorS14
import Derived.Test.YtcdoidnfdkodoaaGreatDoorS39
import Derived.Test.YtcdoidnfdkodoaaGreatDoorS12
import Derived.Test.YtcdoidnfdkodoaaGreatDoorS49
import Derived.Deep.RegionHeld
namespace Go.Proofs.YtcdoidnfdkodoaaGreatDoor
open Go.RowKit
set_option linter.unusedVariables false
set_option linter.unusedSimpArgs false
set_option linter.unusedSectionVars false
theorem mul_bd {a b : Int} (h : 0 ≤ a ∧ a ≤ 4294967295) (hb : 0 ≤ b ∧ b ≤ 4294967295) : 0 ≤ a * b ∧ a * b ≤ 18446744065119617025 := by
  refine ⟨Int.mul_nonneg h.1 hb.1, ?_⟩
  have := Int.mul_le_mul h.2 hb.2 hb.1 (by omega)
  omega
theorem halves_any (p : Int) (hp : 0 ≤ p ∧ p ≤ 18446744073709551615) (w : World) : Calls Tryz.prog 239 #[.int .u64 p] w fun e w' => e = .returned (.tuple #[.int .u32 (p % 4294967296), .int .u32 (p / 4294967296)]) ∧ w = w' := by
  go_enter Tryz.func239, Tryz.ntmps239
  go_wp2
  go_ret2
  exact ⟨rfl, rfl⟩
theorem mulU_any (a b : Int) (h : 0 ≤ a ∧ a ≤ 4294967295) (hb : 0 ≤ b ∧ b ≤ 4294967295) (w : World) : Calls Tryz.prog 203 #[.int .u32 a, .int .u32 b] w fun e w' => e = .returned (.tuple #[.int .u32 (a * b % 4294967296), .int .u32 (a * b / 4294967296)]) ∧ w = w' := by
  have hab := mul_bd h hb
  go_enter Tryz.func203, Tryz.ntmps203
  go_wp2_with (first | (go_at_call 239; refine (halves_any _ (by omega) _).mono ?_; rintro e w' ⟨rfl, rfl⟩))
  go_ret2
  exact ⟨rfl, rfl⟩
theorem classOf_16 (w : World) : Calls Tryz.prog 238 #[.int .i64 16] w fun e w' => e = .returned (.int .i64 ((6 : Nat) : Int)) ∧ w = w' := by
  go_enter Tryz.func238, Tryz.ntmps238
  go_wp2
  go_ret
  exact ⟨rfl, rfl⟩
theorem res_ssc {fn : Func} {q r p : Tmp} (h : fn.results = #[.tmp q, .tmp r, .cell p 26]) (tmps : Array Value) (w : World) (N : Nat) (g : Nat → Bool) (v u : Value)
    (hq : tmps.getD q undef = v) (hr : tmps.getD r undef = u) (hp : tmps.getD p undef = .pointer (some ⟨N, 0, none⟩)) (k : Blk w N 26 (fl6 g)) : (results fn tmps).run Tryz.prog w = .ok (.tuple #[v, u, flV g]) w := by
  have hp' : tmps[p]?.getD undef = .pointer (some ⟨N, 0, none⟩) := by simpa using hp
  have hq' : tmps[q]?.getD undef = v := by simpa using hq
  have hr' : tmps[r]?.getD undef = u := by simpa using hr
  simp [results, h, hp', hq', hr', asAddr, run_load_fl k]
section
variable {w : World} {G B : Nat} {g : Gs} {m : Mm}
set_option maxRecDepth 20000 in
theorem gdoA16 (h : GuAt w G B g m) (i : In) (hop : i.op = 16) (q : RsO) (hm : ∀ W, GuAt W G B g m → Below w.heap.size w W → Calls Tryz.prog 121 #[mp G, inV i] W (Aft G B W q)) : Calls Tryz.prog 76 #[mp G, inV i] w (Aft G B w q) := by
  have qM := Lib.hid hm
  clear hm
  have b0 := (Below.refl w.heap.size w).alloc (Nat.le_refl _) (.cells (in16 i) 33)
  have kI := Blk.new w 33 (in16 i)
  have hg := h.below b0
  have c0 := kI.cell (i := 0) (v := .int .i64 i.op) rfl
  rw [hop] at c0
  cases q with
  | ok g' m' =>
    go_enter Tryz.func76, Tryz.ntmps76
    go_wp2_with (first | (with_reducible refine load_in rfl _ rfl rfl kI ?_) | ((with_reducible refine (qM.out _ hg b0).mono ?_); rintro e w2 ⟨rfl, hg2, b2⟩))
    exact bodyPost_end (v := .tuple #[]) (by simp [results, Tryz.results76, go_sem]) rfl ⟨rfl, hg2, (But.of b0 [G, B]).trans (b2.mono (S' := [G, B]) b0.size (fun k hk => .inl hk))⟩
  | bad kk a t =>
    go_enter Tryz.func76, Tryz.ntmps76
    go_wp2_with (first | (with_reducible refine load_in rfl _ rfl rfl kI ?_) | ((with_reducible refine (qM.out _ hg b0).mono ?_); rintro e w2 ⟨rfl, b2⟩))
    exact ⟨rfl, rfl, (But.of b0 [G]).trans (b2.mono (S' := [G]) b0.size (fun k hk => .inl hk))⟩
set_option maxRecDepth 20000 in
theorem gdoA19 (h : GuAt w G B g m) (i : In) (hop : i.op = 19) (q : RsO) (hm : ∀ W, GuAt W G B g m → Below w.heap.size w W → Calls Tryz.prog 122 #[mp G, inV i] W (Aft G B W q)) : Calls Tryz.prog 76 #[mp G, inV i] w (Aft G B w q) := by
  have qM := Lib.hid hm
  clear hm
  have b0 := (Below.refl w.heap.size w).alloc (Nat.le_refl _) (.cells (in16 i) 33)
  have kI := Blk.new w 33 (in16 i)
  have hg := h.below b0
  have c0 := kI.cell (i := 0) (v := .int .i64 i.op) rfl
  rw [hop] at c0
  cases q with
  | ok g' m' =>
    go_enter Tryz.func76, Tryz.ntmps76
    go_wp2_with (first | (with_reducible refine load_in rfl _ rfl rfl kI ?_) | ((with_reducible refine (qM.out _ hg b0).mono ?_); rintro e w2 ⟨rfl, hg2, b2⟩))
    exact bodyPost_end (v := .tuple #[]) (by simp [results, Tryz.results76, go_sem]) rfl ⟨rfl, hg2, (But.of b0 [G, B]).trans (b2.mono (S' := [G, B]) b0.size (fun k hk => .inl hk))⟩
  | bad kk a t =>
    go_enter Tryz.func76, Tryz.ntmps76
    go_wp2_with (first | (with_reducible refine load_in rfl _ rfl rfl kI ?_) | ((with_reducible refine (qM.out _ hg b0).mono ?_); rintro e w2 ⟨rfl, b2⟩))
    exact ⟨rfl, rfl, (But.of b0 [G]).trans (b2.mono (S' := [G]) b0.size (fun k hk => .inl hk))⟩
end
end Go.Proofs.YtcdoidnfdkodoaaGreatDoor
namespace Go.Proofs.YtcdoidnfdkodoaaGreatDoor
open Go.RowKit
set_option linter.unusedVariables false
set_option maxRecDepth 20000
set_option linter.unusedSimpArgs false
set_option linter.unusedSectionVars false
end Go.Proofs.YtcdoidnfdkodoaaGreatDoor
namespace Go.Proofs.YtcdoidnfdkodoaaGreatDoor
open Go.RowKit
set_option linter.unusedVariables false
set_option maxRecDepth 20000
set_option linter.unusedSimpArgs false
set_option linter.unusedSectionVars false
theorem wrap_i32 (x : Int) : IntKind.i32.wrap x = wrap32 x := IntWalk.i32_left x
end Go.Proofs.YtcdoidnfdkodoaaGreatDoor
namespace Go.Proofs.YtcdoidnfdkodoaaGreatDoor
open Go.RowKit
set_option linter.unusedVariables false
set_option maxRecDepth 20000
set_option linter.unusedSimpArgs false
set_option linter.unusedSectionVars false
def beyF (f : Nat → Bool) (b : Bool) : Nat → Bool
  | 0 => b | 5 => b | i => f i
theorem byBeyond_any (op : Int) (hc : ClassIs op 6) (f : Nat → Bool) (b : Bool) (w : World) (tabs : TabsA w) : Calls Tryz.prog 204 #[.int .i64 op, flV f, .bool b] w fun e w' => e = .returned (flV (beyF f b)) ∧ Below w.heap.size w w' := by
  obtain ⟨s, hs⟩ : ∃ s : Nat → Bool, s = fun i => if i = 0 ∨ i = 5 then b else false := ⟨_, rfl⟩
  have qW := fun W tabs => written_any op 6 (by decide) hc f s W tabs
  have hv := Lib.hid (show flV s = .agg #[.bool b, .bool false, .bool false, .bool false, .bool false, .bool b] by rw [hs]; rfl)
  rw [show flV (mixL (wrT 6) f s) = flV (beyF f b) by rw [hs]; rfl, hv.out] at qW
  clear hs hc
  generalize beyF f b = g at *
  replace qW := Lib.hid qW
  have kF := (Blk.new w 26 (fl6 f)).alloc (.cells (fl6 fun _ => false) 26)
  have kR := Blk.new (w.alloc (.cells (fl6 f) 26)) 26 (fl6 fun _ => false)
  rw [World.size_alloc] at kR
  have kb : Below w.heap.size w ((w.alloc (.cells (fl6 f) 26)).alloc (.cells (fl6 fun _ => false) 26)) := ((Below.refl _ _).alloc (Nat.le_refl _) _).alloc (by simp) _
  have tabs2 := tabs.below kb
  have hSB := kb.size
  go_enter Tryz.func204, Tryz.ntmps204
  go_wp2_with (first | (with_reducible refine (qW.out _ tabs2).mono ?_; rintro e w3 ⟨rfl, bb⟩) | (with_reducible refine store_fl rfl _ _ rfl (w.heap.size + 1) g (fun _ => false) rfl rfl (kR.below bb kR.lt) ?_))
  refine bodyPost_ret (v := flV g) (res_c rfl _ _ (w.heap.size + 1) g rfl ((kR.below bb kR.lt).row _)) rfl ⟨rfl, ?_⟩
  exact below_rowNew (kb.trans (bb.mono hSB)) (N := w.heap.size + 1) (by omega) _
abbrev Muls (op a b : Int) (f : Nat → Bool) (x y : Int) (g : Nat → Bool) : Prop := ∀ w, TabsA w → Calls Tryz.prog 163 #[.int .i64 op, .int .u32 a, .int .u32 b, flV f] w fun e w' => e = .returned (.tuple #[.int .u32 x, .int .u32 y, flV g]) ∧ Below w.heap.size w w'
def loU (a b : Int) : Int := a * b % 4294967296
def hiU (a b : Int) : Int := a * b / 4294967296
theorem mul_u (a b : Int) (f : Nat → Bool) (h : 0 ≤ a ∧ a ≤ 4294967295) (hb : 0 ≤ b ∧ b ≤ 4294967295) : Muls 16 a b f (loU a b) (hiU a b) (beyF f (hiU a b != 0)) := by
  intro w tabs
  have qM : ∀ w, Calls Tryz.prog 203 #[.int .u32 a, .int .u32 b] w fun e w' => e = .returned (.tuple #[.int .u32 (loU a b), .int .u32 (hiU a b)]) ∧ w = w' := fun w => mulU_any a b h hb w
  have qB := fun W tabs => byBeyond_any 16 classOf_16 f (hiU a b != 0) W tabs
  generalize beyF f (hiU a b != 0) = g at *
  generalize loU a b = lo at *
  generalize hiU a b = hi at *
  replace qM := Lib.hid qM
  replace qB := Lib.hid qB
  have kF := (Blk.new w 26 (fl6 f)).alloc (.cells (fl6 fun _ => false) 26)
  have kR := Blk.new (w.alloc (.cells (fl6 f) 26)) 26 (fl6 fun _ => false)
  rw [World.size_alloc] at kR
  have kb : Below w.heap.size w ((w.alloc (.cells (fl6 f) 26)).alloc (.cells (fl6 fun _ => false) 26)) := ((Below.refl _ _).alloc (Nat.le_refl _) _).alloc (by simp) _
  have tabs2 := tabs.below kb
  have hSB := kb.size
  go_enter Tryz.func163, Tryz.ntmps163
  go_wp2_with (first | (with_reducible refine (qM.out _).mono ?_; rintro e w9 ⟨rfl, rfl⟩) | (with_reducible refine (qB.out _ tabs2).mono ?_; rintro e w3 ⟨rfl, bb⟩) | (with_reducible refine store_fl rfl _ _ rfl (w.heap.size + 1) g (fun _ => false) rfl rfl (kR.below bb kR.lt) ?_))
  refine bodyPost_ret (v := .tuple #[.int .u32 lo, .int .u32 hi, flV g]) (res_ssc rfl _ _ (w.heap.size + 1) g _ _ rfl rfl rfl ((kR.below bb kR.lt).row _)) rfl ⟨rfl, ?_⟩
  exact below_rowNew (kb.trans (bb.mono hSB)) (N := w.heap.size + 1) (by omega) _
end Go.Proofs.YtcdoidnfdkodoaaGreatDoor
namespace Go.Proofs.YtcdoidnfdkodoaaGreatDoor
open Go.RowKit
set_option linter.unusedVariables false
set_option maxRecDepth 20000
set_option linter.unusedSimpArgs false
set_option linter.unusedSectionVars false
theorem divided_yes (n d : Int) (hn : 0 ≤ n ∧ n ≤ 18446744073709551615) (hd : 0 < d ∧ d ≤ 4294967295) (hq : (n / d != n / d % 4294967296) = false) (w : World) :
    Calls Tryz.prog 207 #[.int .u64 n, .int .u32 d] w fun e w' => e = .returned (.tuple #[.int .u32 (n / d % 4294967296), .int .u32 (n % d % 4294967296), .bool true]) ∧ Below w.heap.size w w' := by
  have h0 : (d == 0) = false := by simp; omega
  have h1 : d ≠ 0 := by omega
  go_enter Tryz.func207, Tryz.ntmps207
  go_wp2
  go_region
  go_wp2
  all_goals go_ret3
  all_goals exact ⟨rfl, (Below.refl _ _).drew⟩
theorem or_high {lo hi : Int} (h : 0 ≤ lo ∧ lo ≤ 4294967295) (hb : 0 ≤ hi ∧ hi ≤ 4294967295) : bits .or .u64 (hi * 4294967296) lo = hi * 4294967296 + lo := by
  obtain ⟨L, rfl⟩ := Int.eq_ofNat_of_zero_le h.1
  obtain ⟨H, rfl⟩ := Int.eq_ofNat_of_zero_le hb.1
  have e : ((H : Int) * 4294967296) = ((H * 4294967296 : Nat) : Int) := by omega
  rw [e, u64_or_nat _ _ (by omega) (by omega)]
  have := Nat.two_pow_add_eq_or_of_lt (i := 32) (b := L) (by omega) H
  rw [Nat.mul_comm] at this
  have h2 : H * 4294967296 ||| L = H * 4294967296 + L := by rw [Nat.mul_comm H 4294967296]; exact (Nat.two_pow_add_eq_or_of_lt (i := 32) (b := L) (by omega) H).symm
  rw [h2]
  omega
abbrev Divs (op lo hi d q r : Int) (ok : Bool) : Prop := ∀ w, Calls Tryz.prog 164 #[.int .i64 op, .int .u32 lo, .int .u32 hi, .int .u32 d] w fun e w' => e = .returned (.tuple #[.int .u32 q, .int .u32 r, .bool ok]) ∧ Below w.heap.size w w'
theorem div_zero (op lo hi : Int) (h : 0 ≤ lo ∧ lo ≤ 4294967295) (hb : 0 ≤ hi ∧ hi ≤ 4294967295) : Divs op lo hi 0 0 0 false := by
  intro w
  go_enter Tryz.func164, Tryz.ntmps164
  go_wp2
  go_ret3
  exact ⟨rfl, Below.refl _ _⟩
theorem div_u (lo hi d q r : Int) (ok : Bool) (h : 0 ≤ lo ∧ lo ≤ 4294967295) (hb : 0 ≤ hi ∧ hi ≤ 4294967295) (hd : 0 < d ∧ d ≤ 4294967295)
    (qD : ∀ w, Calls Tryz.prog 207 #[.int .u64 (hi * 4294967296 + lo), .int .u32 d] w fun e w' => e = .returned (.tuple #[.int .u32 q, .int .u32 r, .bool ok]) ∧ Below w.heap.size w w') : Divs 19 lo hi d q r ok := by
  intro w
  have ho := or_high h hb
  have h3 : (d == 0) = false := by simp; omega
  replace qD := Lib.hid qD
  go_enter Tryz.func164, Tryz.ntmps164
  go_wp2_with (first | (with_reducible refine (qD.out _).mono ?_; rintro e w9 ⟨rfl, bb⟩))
  go_ret3
  exact ⟨rfl, bb⟩
end Go.Proofs.YtcdoidnfdkodoaaGreatDoor
