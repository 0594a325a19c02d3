/- What Do makes, operation by operation. -/
import Derived.Test.YtgeeecoclhomiaaDoorA3
namespace Go.Proofs.YtgeeecoclhomiaaDoor
open Go.RowKit
set_option linter.unusedVariables false
set_option linter.unusedSimpArgs false
set_option linter.unusedSectionVars false

abbrev Reckons (op a b : Int) (f : Nat → Bool) (R : Int) (G : Nat → Bool) : Prop := ∀ w, Calls Tryd.prog 30 #[.int .i64 op, .int .u32 a, .int .u32 b, flV f] w fun e w' => e = .returned (.tuple #[.int .u32 R, flV G]) ∧ Below w.heap.size w w'
abbrev Does (op a b : Int) (f : Nat → Bool) (R : Int) (G : Nat → Bool) : Prop := ∀ w, Tabs w → Calls Tryd.prog 18 #[.int .i64 op, .int .u32 a, .int .u32 b, flV f] w fun e w' => e = .returned (.tuple #[.int .u32 R, flV G]) ∧ Below w.heap.size w w'

theorem reck_add (a b : Int) (f : Nat → Bool) (h : 0 ≤ a ∧ a ≤ 4294967295) (hb : 0 ≤ b ∧ b ≤ 4294967295) : Reckons 3 a b f (addR a b false) (addF a b false) := by
  intro w
  have q := Lib.hid (fun w => sum_any a b false h hb w)
  have hR := addR_bd a b false
  generalize addR a b false = R at *
  generalize addF a b false = g at *
  have kR := Blk.new (w.alloc (.cells (fl6 f) 24)) 24 (fl6 fun _ => false)
  go_enter Tryd.func30, Tryd.ntmps30
  go_wp2_with (first | (with_reducible refine (q.out _).mono ?_; rintro e w2 ⟨rfl, bb⟩) | (with_reducible refine store_fl rfl _ _ rfl (w.heap.size + 1) g (fun _ => false) rfl rfl (by simpa using kR.below bb (by simp)) ?_))
  have kb : Below w.heap.size w w2 := (((Below.refl _ _).alloc (Nat.le_refl _) _).alloc (by simp) _).trans (bb.mono (by simp; omega))
  refine bodyPost_ret (v := .tuple #[.int .u32 R, flV g]) (res_sc rfl _ _ (w.heap.size + 1) g _ rfl rfl ((show Blk _ (w.heap.size + 1) _ _ by simpa using kR.below bb (by simp)).row _)) rfl ⟨rfl, ?_⟩
  exact below_rowNew kb (N := w.heap.size + 1) (by omega) _
theorem reck_adc (a b : Int) (f : Nat → Bool) (h : 0 ≤ a ∧ a ≤ 4294967295) (hb : 0 ≤ b ∧ b ≤ 4294967295) : Reckons 5 a b f (addR a b (f 0)) (addF a b (f 0)) := by
  intro w
  have q := Lib.hid (fun w => sum_any a b (f 0) h hb w)
  have hR := addR_bd a b (f 0)
  generalize addR a b (f 0) = R at *
  generalize addF a b (f 0) = g at *
  have kR := Blk.new (w.alloc (.cells (fl6 f) 24)) 24 (fl6 fun _ => false)
  go_enter Tryd.func30, Tryd.ntmps30
  go_wp2_with (first | (with_reducible refine (q.out _).mono ?_; rintro e w2 ⟨rfl, bb⟩) | (with_reducible refine store_fl rfl _ _ rfl (w.heap.size + 1) g (fun _ => false) rfl rfl (by simpa using kR.below bb (by simp)) ?_))
  have kb : Below w.heap.size w w2 := (((Below.refl _ _).alloc (Nat.le_refl _) _).alloc (by simp) _).trans (bb.mono (by simp; omega))
  refine bodyPost_ret (v := .tuple #[.int .u32 R, flV g]) (res_sc rfl _ _ (w.heap.size + 1) g _ rfl rfl ((show Blk _ (w.heap.size + 1) _ _ by simpa using kR.below bb (by simp)).row _)) rfl ⟨rfl, ?_⟩
  exact below_rowNew kb (N := w.heap.size + 1) (by omega) _
theorem reck_inc (a b : Int) (f : Nat → Bool) (h : 0 ≤ a ∧ a ≤ 4294967295) (hb : 0 ≤ b ∧ b ≤ 4294967295) : Reckons 12 a b f (addR a 1 false) (addF a 1 false) := by
  intro w
  have q := Lib.hid (fun w => sum_any a 1 false h (by decide) w)
  have hR := addR_bd a 1 false
  generalize addR a 1 false = R at *
  generalize addF a 1 false = g at *
  have kR := Blk.new (w.alloc (.cells (fl6 f) 24)) 24 (fl6 fun _ => false)
  go_enter Tryd.func30, Tryd.ntmps30
  go_wp2_with (first | (with_reducible refine (q.out _).mono ?_; rintro e w2 ⟨rfl, bb⟩) | (with_reducible refine store_fl rfl _ _ rfl (w.heap.size + 1) g (fun _ => false) rfl rfl (by simpa using kR.below bb (by simp)) ?_))
  have kb : Below w.heap.size w w2 := (((Below.refl _ _).alloc (Nat.le_refl _) _).alloc (by simp) _).trans (bb.mono (by simp; omega))
  refine bodyPost_ret (v := .tuple #[.int .u32 R, flV g]) (res_sc rfl _ _ (w.heap.size + 1) g _ rfl rfl ((show Blk _ (w.heap.size + 1) _ _ by simpa using kR.below bb (by simp)).row _)) rfl ⟨rfl, ?_⟩
  exact below_rowNew kb (N := w.heap.size + 1) (by omega) _
theorem reck_sub (a b : Int) (f : Nat → Bool) (h : 0 ≤ a ∧ a ≤ 4294967295) (hb : 0 ≤ b ∧ b ≤ 4294967295) : Reckons 8 a b f (subR a b false) (subF a b false) := by
  intro w
  have q := Lib.hid (fun w => difference_any a b false h hb w)
  have hR := subR_bd a b false
  generalize subR a b false = R at *
  generalize subF a b false = g at *
  have kR := Blk.new (w.alloc (.cells (fl6 f) 24)) 24 (fl6 fun _ => false)
  go_enter Tryd.func30, Tryd.ntmps30
  go_wp2_with (first | (with_reducible refine (q.out _).mono ?_; rintro e w2 ⟨rfl, bb⟩) | (with_reducible refine store_fl rfl _ _ rfl (w.heap.size + 1) g (fun _ => false) rfl rfl (by simpa using kR.below bb (by simp)) ?_))
  have kb : Below w.heap.size w w2 := (((Below.refl _ _).alloc (Nat.le_refl _) _).alloc (by simp) _).trans (bb.mono (by simp; omega))
  refine bodyPost_ret (v := .tuple #[.int .u32 R, flV g]) (res_sc rfl _ _ (w.heap.size + 1) g _ rfl rfl ((show Blk _ (w.heap.size + 1) _ _ by simpa using kR.below bb (by simp)).row _)) rfl ⟨rfl, ?_⟩
  exact below_rowNew kb (N := w.heap.size + 1) (by omega) _
theorem reck_cmp (a b : Int) (f : Nat → Bool) (h : 0 ≤ a ∧ a ≤ 4294967295) (hb : 0 ≤ b ∧ b ≤ 4294967295) : Reckons 10 a b f (subR a b false) (subF a b false) := by
  intro w
  have q := Lib.hid (fun w => difference_any a b false h hb w)
  have hR := subR_bd a b false
  generalize subR a b false = R at *
  generalize subF a b false = g at *
  have kR := Blk.new (w.alloc (.cells (fl6 f) 24)) 24 (fl6 fun _ => false)
  go_enter Tryd.func30, Tryd.ntmps30
  go_wp2_with (first | (with_reducible refine (q.out _).mono ?_; rintro e w2 ⟨rfl, bb⟩) | (with_reducible refine store_fl rfl _ _ rfl (w.heap.size + 1) g (fun _ => false) rfl rfl (by simpa using kR.below bb (by simp)) ?_))
  have kb : Below w.heap.size w w2 := (((Below.refl _ _).alloc (Nat.le_refl _) _).alloc (by simp) _).trans (bb.mono (by simp; omega))
  refine bodyPost_ret (v := .tuple #[.int .u32 R, flV g]) (res_sc rfl _ _ (w.heap.size + 1) g _ rfl rfl ((show Blk _ (w.heap.size + 1) _ _ by simpa using kR.below bb (by simp)).row _)) rfl ⟨rfl, ?_⟩
  exact below_rowNew kb (N := w.heap.size + 1) (by omega) _
theorem reck_sbb (a b : Int) (f : Nat → Bool) (h : 0 ≤ a ∧ a ≤ 4294967295) (hb : 0 ≤ b ∧ b ≤ 4294967295) : Reckons 6 a b f (subR a b (f 0)) (subF a b (f 0)) := by
  intro w
  have q := Lib.hid (fun w => difference_any a b (f 0) h hb w)
  have hR := subR_bd a b (f 0)
  generalize subR a b (f 0) = R at *
  generalize subF a b (f 0) = g at *
  have kR := Blk.new (w.alloc (.cells (fl6 f) 24)) 24 (fl6 fun _ => false)
  go_enter Tryd.func30, Tryd.ntmps30
  go_wp2_with (first | (with_reducible refine (q.out _).mono ?_; rintro e w2 ⟨rfl, bb⟩) | (with_reducible refine store_fl rfl _ _ rfl (w.heap.size + 1) g (fun _ => false) rfl rfl (by simpa using kR.below bb (by simp)) ?_))
  have kb : Below w.heap.size w w2 := (((Below.refl _ _).alloc (Nat.le_refl _) _).alloc (by simp) _).trans (bb.mono (by simp; omega))
  refine bodyPost_ret (v := .tuple #[.int .u32 R, flV g]) (res_sc rfl _ _ (w.heap.size + 1) g _ rfl rfl ((show Blk _ (w.heap.size + 1) _ _ by simpa using kR.below bb (by simp)).row _)) rfl ⟨rfl, ?_⟩
  exact below_rowNew kb (N := w.heap.size + 1) (by omega) _
theorem reck_dec (a b : Int) (f : Nat → Bool) (h : 0 ≤ a ∧ a ≤ 4294967295) (hb : 0 ≤ b ∧ b ≤ 4294967295) : Reckons 13 a b f (subR a 1 false) (subF a 1 false) := by
  intro w
  have q := Lib.hid (fun w => difference_any a 1 false h (by decide) w)
  have hR := subR_bd a 1 false
  generalize subR a 1 false = R at *
  generalize subF a 1 false = g at *
  have kR := Blk.new (w.alloc (.cells (fl6 f) 24)) 24 (fl6 fun _ => false)
  go_enter Tryd.func30, Tryd.ntmps30
  go_wp2_with (first | (with_reducible refine (q.out _).mono ?_; rintro e w2 ⟨rfl, bb⟩) | (with_reducible refine store_fl rfl _ _ rfl (w.heap.size + 1) g (fun _ => false) rfl rfl (by simpa using kR.below bb (by simp)) ?_))
  have kb : Below w.heap.size w w2 := (((Below.refl _ _).alloc (Nat.le_refl _) _).alloc (by simp) _).trans (bb.mono (by simp; omega))
  refine bodyPost_ret (v := .tuple #[.int .u32 R, flV g]) (res_sc rfl _ _ (w.heap.size + 1) g _ rfl rfl ((show Blk _ (w.heap.size + 1) _ _ by simpa using kR.below bb (by simp)).row _)) rfl ⟨rfl, ?_⟩
  exact below_rowNew kb (N := w.heap.size + 1) (by omega) _
theorem reck_neg (a b : Int) (f : Nat → Bool) (h : 0 ≤ a ∧ a ≤ 4294967295) (hb : 0 ≤ b ∧ b ≤ 4294967295) : Reckons 15 a b f (subR 0 a false) (subF 0 a false) := by
  intro w
  have q := Lib.hid (fun w => difference_any 0 a false (by decide) h w)
  have hR := subR_bd 0 a false
  generalize subR 0 a false = R at *
  generalize subF 0 a false = g at *
  have kR := Blk.new (w.alloc (.cells (fl6 f) 24)) 24 (fl6 fun _ => false)
  go_enter Tryd.func30, Tryd.ntmps30
  go_wp2_with (first | (with_reducible refine (q.out _).mono ?_; rintro e w2 ⟨rfl, bb⟩) | (with_reducible refine store_fl rfl _ _ rfl (w.heap.size + 1) g (fun _ => false) rfl rfl (by simpa using kR.below bb (by simp)) ?_))
  have kb : Below w.heap.size w w2 := (((Below.refl _ _).alloc (Nat.le_refl _) _).alloc (by simp) _).trans (bb.mono (by simp; omega))
  refine bodyPost_ret (v := .tuple #[.int .u32 R, flV g]) (res_sc rfl _ _ (w.heap.size + 1) g _ rfl rfl ((show Blk _ (w.heap.size + 1) _ _ by simpa using kR.below bb (by simp)).row _)) rfl ⟨rfl, ?_⟩
  exact below_rowNew kb (N := w.heap.size + 1) (by omega) _
theorem reck_and (a b : Int) (f : Nat → Bool) (h : 0 ≤ bits .and .u32 a b ∧ bits .and .u32 a b ≤ 4294967295) : Reckons 7 a b f (bits .and .u32 a b) (resF (bits .and .u32 a b)) := by
  intro w
  have q := Lib.hid (fun w => byResult_any (bits .and .u32 a b) h w)
  generalize resF (bits .and .u32 a b) = g at *
  obtain ⟨X, hX⟩ : ∃ X, bits .and .u32 a b = X := ⟨_, rfl⟩
  rw [hX] at q h ⊢
  have kR := Blk.new (w.alloc (.cells (fl6 f) 24)) 24 (fl6 fun _ => false)
  go_enter Tryd.func30, Tryd.ntmps30
  go_wp2_with (first | (with_reducible refine (q.out _).mono ?_; rintro e w2 ⟨rfl, bb⟩) | (with_reducible refine store_fl rfl _ _ rfl (w.heap.size + 1) g (fun _ => false) rfl rfl (by simpa using kR.below bb (by simp)) ?_))
  have kb : Below w.heap.size w w2 := (((Below.refl _ _).alloc (Nat.le_refl _) _).alloc (by simp) _).trans (bb.mono (by simp; omega))
  refine bodyPost_ret (v := .tuple #[.int .u32 X, flV g]) (res_sc rfl _ _ (w.heap.size + 1) g _ rfl rfl ((show Blk _ (w.heap.size + 1) _ _ by simpa using kR.below bb (by simp)).row _)) rfl ⟨rfl, ?_⟩
  exact below_rowNew kb (N := w.heap.size + 1) (by omega) _
theorem reck_test (a b : Int) (f : Nat → Bool) (h : 0 ≤ bits .and .u32 a b ∧ bits .and .u32 a b ≤ 4294967295) : Reckons 11 a b f (bits .and .u32 a b) (resF (bits .and .u32 a b)) := by
  intro w
  have q := Lib.hid (fun w => byResult_any (bits .and .u32 a b) h w)
  generalize resF (bits .and .u32 a b) = g at *
  obtain ⟨X, hX⟩ : ∃ X, bits .and .u32 a b = X := ⟨_, rfl⟩
  rw [hX] at q h ⊢
  have kR := Blk.new (w.alloc (.cells (fl6 f) 24)) 24 (fl6 fun _ => false)
  go_enter Tryd.func30, Tryd.ntmps30
  go_wp2_with (first | (with_reducible refine (q.out _).mono ?_; rintro e w2 ⟨rfl, bb⟩) | (with_reducible refine store_fl rfl _ _ rfl (w.heap.size + 1) g (fun _ => false) rfl rfl (by simpa using kR.below bb (by simp)) ?_))
  have kb : Below w.heap.size w w2 := (((Below.refl _ _).alloc (Nat.le_refl _) _).alloc (by simp) _).trans (bb.mono (by simp; omega))
  refine bodyPost_ret (v := .tuple #[.int .u32 X, flV g]) (res_sc rfl _ _ (w.heap.size + 1) g _ rfl rfl ((show Blk _ (w.heap.size + 1) _ _ by simpa using kR.below bb (by simp)).row _)) rfl ⟨rfl, ?_⟩
  exact below_rowNew kb (N := w.heap.size + 1) (by omega) _
theorem reck_or (a b : Int) (f : Nat → Bool) (h : 0 ≤ bits .or .u32 a b ∧ bits .or .u32 a b ≤ 4294967295) : Reckons 4 a b f (bits .or .u32 a b) (resF (bits .or .u32 a b)) := by
  intro w
  have q := Lib.hid (fun w => byResult_any (bits .or .u32 a b) h w)
  generalize resF (bits .or .u32 a b) = g at *
  obtain ⟨X, hX⟩ : ∃ X, bits .or .u32 a b = X := ⟨_, rfl⟩
  rw [hX] at q h ⊢
  have kR := Blk.new (w.alloc (.cells (fl6 f) 24)) 24 (fl6 fun _ => false)
  go_enter Tryd.func30, Tryd.ntmps30
  go_wp2_with (first | (with_reducible refine (q.out _).mono ?_; rintro e w2 ⟨rfl, bb⟩) | (with_reducible refine store_fl rfl _ _ rfl (w.heap.size + 1) g (fun _ => false) rfl rfl (by simpa using kR.below bb (by simp)) ?_))
  have kb : Below w.heap.size w w2 := (((Below.refl _ _).alloc (Nat.le_refl _) _).alloc (by simp) _).trans (bb.mono (by simp; omega))
  refine bodyPost_ret (v := .tuple #[.int .u32 X, flV g]) (res_sc rfl _ _ (w.heap.size + 1) g _ rfl rfl ((show Blk _ (w.heap.size + 1) _ _ by simpa using kR.below bb (by simp)).row _)) rfl ⟨rfl, ?_⟩
  exact below_rowNew kb (N := w.heap.size + 1) (by omega) _
theorem reck_xor (a b : Int) (f : Nat → Bool) (h : 0 ≤ bits .xor .u32 a b ∧ bits .xor .u32 a b ≤ 4294967295) : Reckons 9 a b f (bits .xor .u32 a b) (resF (bits .xor .u32 a b)) := by
  intro w
  have q := Lib.hid (fun w => byResult_any (bits .xor .u32 a b) h w)
  generalize resF (bits .xor .u32 a b) = g at *
  obtain ⟨X, hX⟩ : ∃ X, bits .xor .u32 a b = X := ⟨_, rfl⟩
  rw [hX] at q h ⊢
  have kR := Blk.new (w.alloc (.cells (fl6 f) 24)) 24 (fl6 fun _ => false)
  go_enter Tryd.func30, Tryd.ntmps30
  go_wp2_with (first | (with_reducible refine (q.out _).mono ?_; rintro e w2 ⟨rfl, bb⟩) | (with_reducible refine store_fl rfl _ _ rfl (w.heap.size + 1) g (fun _ => false) rfl rfl (by simpa using kR.below bb (by simp)) ?_))
  have kb : Below w.heap.size w w2 := (((Below.refl _ _).alloc (Nat.le_refl _) _).alloc (by simp) _).trans (bb.mono (by simp; omega))
  refine bodyPost_ret (v := .tuple #[.int .u32 X, flV g]) (res_sc rfl _ _ (w.heap.size + 1) g _ rfl rfl ((show Blk _ (w.heap.size + 1) _ _ by simpa using kR.below bb (by simp)).row _)) rfl ⟨rfl, ?_⟩
  exact below_rowNew kb (N := w.heap.size + 1) (by omega) _
theorem reck_not (a b : Int) (f : Nat → Bool) (h : 0 ≤ a ∧ a ≤ 4294967295) : Reckons 14 a b f (4294967295 - a) f := by
  intro w
  have hn := u32_not h
  have n1 : IntKind.u32.max = 4294967295 := rfl
  have n3 : IntKind.u32.signed = false := rfl
  have hn2 : IntKind.u32.wrap (4294967295 - a) = 4294967295 - a := by rw [IntKind.wrap_u32]; omega
  go_enter Tryd.func30, Tryd.ntmps30
  go_wp2
  go_region
  go_wp2
  have k : Blk (((w.alloc (.cells (fl6 f) 24)).alloc (.cells (fl6 f) 24)).drew) (w.heap.size + 1) 24 (fl6 f) := by simpa using (Blk.new (w.alloc (.cells (fl6 f) 24)) 24 (fl6 f)).drew
  refine bodyPost_ret (v := .tuple #[.int .u32 (4294967295 - a), flV f]) (res_sc rfl _ _ (w.heap.size + 1) f _ rfl rfl k) rfl ⟨rfl, ?_⟩
  exact (((Below.refl _ _).alloc (Nat.le_refl _) _).alloc (by simp) _).drew
theorem does_of (op a b R : Int) (f G : Nat → Bool) (k : Nat) (hk : k < 8) (hc : ClassIs op k) (h10 : (op == 10) = false) (h11 : (op == 11) = false) (q : Reckons op a b f R G) : Does op a b f R (mixL (wrT k) f G) := by
  intro w tabs
  have q2 := Lib.hid q
  have qW := Lib.hid (fun W tabs => written_any op k hk hc f G W tabs)
  clear q hc
  have kF := (Blk.new w 24 (fl6 f)).alloc (.cells (fl6 fun _ => false) 24)
  have kR := Blk.new (w.alloc (.cells (fl6 f) 24)) 24 (fl6 fun _ => false)
  rw [World.size_alloc] at kR
  generalize mixL (wrT k) f G = g at *
  go_enter Tryd.func18, Tryd.ntmps18
  go_wp2_with fail
  refine (q2.out _).mono ?_
  rintro e w2 ⟨rfl, bb⟩
  replace kF := kF.below bb (by simp; omega)
  replace kR := kR.below bb (by simp)
  have kb : Below w.heap.size w w2 := (((Below.refl _ _).alloc (Nat.le_refl _) _).alloc (by simp) _).trans (bb.mono (by simp; omega))
  clear bb
  have tabs2 := tabs.below kb
  have hSB := kb.size
  have kG := Blk.new w2 24 (fl6 G)
  replace kF := kF.alloc (.cells (fl6 G) 24)
  replace kR := kR.alloc (.cells (fl6 G) 24)
  replace tabs2 := tabs2.below ((Below.refl _ _).alloc (Nat.le_refl _) (.cells (fl6 G) 24))
  replace kb := kb.alloc hSB (.cells (fl6 G) 24)
  have hSB2 := kb.size
  go_wp2_with (first | (with_reducible refine load_fl rfl _ rfl w.heap.size f rfl kF ?_) | (with_reducible refine load_fl rfl _ rfl w2.heap.size G rfl kG ?_) | (with_reducible refine (qW.out _ tabs2).mono ?_; rintro e w3 ⟨rfl, bb⟩) | (with_reducible refine store_fl rfl _ _ rfl (w.heap.size + 1) g (fun _ => false) rfl rfl (kR.below bb kR.lt) ?_))
  refine bodyPost_ret (v := .tuple #[.int .u32 R, flV g]) (res_sc rfl _ _ (w.heap.size + 1) g _ rfl rfl ((kR.below bb kR.lt).row _)) rfl ⟨rfl, ?_⟩
  exact below_rowNew (kb.trans (bb.mono hSB2)) (N := w.heap.size + 1) (by omega) _
theorem does_cmp (a b R : Int) (f G : Nat → Bool) (k : Nat) (hk : k < 8) (hc : ClassIs 10 k) (q : Reckons 10 a b f R G) : Does 10 a b f a (mixL (wrT k) f G) := by
  intro w tabs
  have q2 := Lib.hid q
  have qW := Lib.hid (fun W tabs => written_any 10 k hk hc f G W tabs)
  clear q hc
  have kF := (Blk.new w 24 (fl6 f)).alloc (.cells (fl6 fun _ => false) 24)
  have kR := Blk.new (w.alloc (.cells (fl6 f) 24)) 24 (fl6 fun _ => false)
  rw [World.size_alloc] at kR
  generalize mixL (wrT k) f G = g at *
  go_enter Tryd.func18, Tryd.ntmps18
  go_wp2_with fail
  refine (q2.out _).mono ?_
  rintro e w2 ⟨rfl, bb⟩
  replace kF := kF.below bb (by simp; omega)
  replace kR := kR.below bb (by simp)
  have kb : Below w.heap.size w w2 := (((Below.refl _ _).alloc (Nat.le_refl _) _).alloc (by simp) _).trans (bb.mono (by simp; omega))
  clear bb
  have tabs2 := tabs.below kb
  have hSB := kb.size
  have kG := Blk.new w2 24 (fl6 G)
  replace kF := kF.alloc (.cells (fl6 G) 24)
  replace kR := kR.alloc (.cells (fl6 G) 24)
  replace tabs2 := tabs2.below ((Below.refl _ _).alloc (Nat.le_refl _) (.cells (fl6 G) 24))
  replace kb := kb.alloc hSB (.cells (fl6 G) 24)
  have hSB2 := kb.size
  go_wp2_with (first | (with_reducible refine load_fl rfl _ rfl w.heap.size f rfl kF ?_) | (with_reducible refine load_fl rfl _ rfl w2.heap.size G rfl kG ?_) | (with_reducible refine (qW.out _ tabs2).mono ?_; rintro e w3 ⟨rfl, bb⟩) | (with_reducible refine store_fl rfl _ _ rfl (w.heap.size + 1) g (fun _ => false) rfl rfl (kR.below bb kR.lt) ?_))
  refine bodyPost_ret (v := .tuple #[.int .u32 a, flV g]) (res_sc rfl _ _ (w.heap.size + 1) g _ rfl rfl ((kR.below bb kR.lt).row _)) rfl ⟨rfl, ?_⟩
  exact below_rowNew (kb.trans (bb.mono hSB2)) (N := w.heap.size + 1) (by omega) _
theorem does_test (a b R : Int) (f G : Nat → Bool) (k : Nat) (hk : k < 8) (hc : ClassIs 11 k) (q : Reckons 11 a b f R G) : Does 11 a b f a (mixL (wrT k) f G) := by
  intro w tabs
  have q2 := Lib.hid q
  have qW := Lib.hid (fun W tabs => written_any 11 k hk hc f G W tabs)
  clear q hc
  have kF := (Blk.new w 24 (fl6 f)).alloc (.cells (fl6 fun _ => false) 24)
  have kR := Blk.new (w.alloc (.cells (fl6 f) 24)) 24 (fl6 fun _ => false)
  rw [World.size_alloc] at kR
  generalize mixL (wrT k) f G = g at *
  go_enter Tryd.func18, Tryd.ntmps18
  go_wp2_with fail
  refine (q2.out _).mono ?_
  rintro e w2 ⟨rfl, bb⟩
  replace kF := kF.below bb (by simp; omega)
  replace kR := kR.below bb (by simp)
  have kb : Below w.heap.size w w2 := (((Below.refl _ _).alloc (Nat.le_refl _) _).alloc (by simp) _).trans (bb.mono (by simp; omega))
  clear bb
  have tabs2 := tabs.below kb
  have hSB := kb.size
  have kG := Blk.new w2 24 (fl6 G)
  replace kF := kF.alloc (.cells (fl6 G) 24)
  replace kR := kR.alloc (.cells (fl6 G) 24)
  replace tabs2 := tabs2.below ((Below.refl _ _).alloc (Nat.le_refl _) (.cells (fl6 G) 24))
  replace kb := kb.alloc hSB (.cells (fl6 G) 24)
  have hSB2 := kb.size
  go_wp2_with (first | (with_reducible refine load_fl rfl _ rfl w.heap.size f rfl kF ?_) | (with_reducible refine load_fl rfl _ rfl w2.heap.size G rfl kG ?_) | (with_reducible refine (qW.out _ tabs2).mono ?_; rintro e w3 ⟨rfl, bb⟩) | (with_reducible refine store_fl rfl _ _ rfl (w.heap.size + 1) g (fun _ => false) rfl rfl (kR.below bb kR.lt) ?_))
  refine bodyPost_ret (v := .tuple #[.int .u32 a, flV g]) (res_sc rfl _ _ (w.heap.size + 1) g _ rfl rfl ((kR.below bb kR.lt).row _)) rfl ⟨rfl, ?_⟩
  exact below_rowNew (kb.trans (bb.mono hSB2)) (N := w.heap.size + 1) (by omega) _
theorem mix_all (k : Nat) (hk : k = 1 ∨ k = 2) (f g : Nat → Bool) : mixL (wrT k) f g = g := by rcases hk with rfl | rfl <;> rfl
theorem mix_none (f g : Nat → Bool) : mixL (wrT 0) f g = f := rfl
theorem do_add (a b : Int) (f : Nat → Bool) (h : 0 ≤ a ∧ a ≤ 4294967295) (hb : 0 ≤ b ∧ b ≤ 4294967295) : Does 3 a b f (addR a b false) (addF a b false) := by
  have := does_of 3 a b _ f _ 1 (by decide) classOf_3 rfl rfl (reck_add a b f h hb)
  exact this
theorem do_adc (a b : Int) (f : Nat → Bool) (h : 0 ≤ a ∧ a ≤ 4294967295) (hb : 0 ≤ b ∧ b ≤ 4294967295) : Does 5 a b f (addR a b (f 0)) (addF a b (f 0)) := by
  have := does_of 5 a b _ f _ 2 (by decide) classOf_5 rfl rfl (reck_adc a b f h hb)
  exact this
theorem do_inc (a b : Int) (f : Nat → Bool) (h : 0 ≤ a ∧ a ≤ 4294967295) (hb : 0 ≤ b ∧ b ≤ 4294967295) : Does 12 a b f (addR a 1 false) (mixL (wrT 3) f (addF a 1 false)) := by
  have := does_of 12 a b _ f _ 3 (by decide) classOf_12 rfl rfl (reck_inc a b f h hb)
  exact this
theorem do_sub (a b : Int) (f : Nat → Bool) (h : 0 ≤ a ∧ a ≤ 4294967295) (hb : 0 ≤ b ∧ b ≤ 4294967295) : Does 8 a b f (subR a b false) (subF a b false) := by
  have := does_of 8 a b _ f _ 1 (by decide) classOf_8 rfl rfl (reck_sub a b f h hb)
  exact this
theorem do_cmp (a b : Int) (f : Nat → Bool) (h : 0 ≤ a ∧ a ≤ 4294967295) (hb : 0 ≤ b ∧ b ≤ 4294967295) : Does 10 a b f a (subF a b false) := by
  have := does_cmp a b _ f _ 1 (by decide) classOf_10 (reck_cmp a b f h hb)
  exact this
theorem do_sbb (a b : Int) (f : Nat → Bool) (h : 0 ≤ a ∧ a ≤ 4294967295) (hb : 0 ≤ b ∧ b ≤ 4294967295) : Does 6 a b f (subR a b (f 0)) (subF a b (f 0)) := by
  have := does_of 6 a b _ f _ 2 (by decide) classOf_6 rfl rfl (reck_sbb a b f h hb)
  exact this
theorem do_dec (a b : Int) (f : Nat → Bool) (h : 0 ≤ a ∧ a ≤ 4294967295) (hb : 0 ≤ b ∧ b ≤ 4294967295) : Does 13 a b f (subR a 1 false) (mixL (wrT 3) f (subF a 1 false)) := by
  have := does_of 13 a b _ f _ 3 (by decide) classOf_13 rfl rfl (reck_dec a b f h hb)
  exact this
theorem do_neg (a b : Int) (f : Nat → Bool) (h : 0 ≤ a ∧ a ≤ 4294967295) (hb : 0 ≤ b ∧ b ≤ 4294967295) : Does 15 a b f (subR 0 a false) (subF 0 a false) := by
  have := does_of 15 a b _ f _ 1 (by decide) classOf_15 rfl rfl (reck_neg a b f h hb)
  exact this
theorem do_and (a b : Int) (f : Nat → Bool) (h : 0 ≤ bits .and .u32 a b ∧ bits .and .u32 a b ≤ 4294967295) : Does 7 a b f (bits .and .u32 a b) (resF (bits .and .u32 a b)) := by
  have := does_of 7 a b _ f _ 1 (by decide) classOf_7 rfl rfl (reck_and a b f h)
  exact this
theorem do_test (a b : Int) (f : Nat → Bool) (h : 0 ≤ bits .and .u32 a b ∧ bits .and .u32 a b ≤ 4294967295) : Does 11 a b f a (resF (bits .and .u32 a b)) := by
  have := does_test a b _ f _ 1 (by decide) classOf_11 (reck_test a b f h)
  exact this
theorem do_or (a b : Int) (f : Nat → Bool) (h : 0 ≤ bits .or .u32 a b ∧ bits .or .u32 a b ≤ 4294967295) : Does 4 a b f (bits .or .u32 a b) (resF (bits .or .u32 a b)) := by
  have := does_of 4 a b _ f _ 1 (by decide) classOf_4 rfl rfl (reck_or a b f h)
  exact this
theorem do_xor (a b : Int) (f : Nat → Bool) (h : 0 ≤ bits .xor .u32 a b ∧ bits .xor .u32 a b ≤ 4294967295) : Does 9 a b f (bits .xor .u32 a b) (resF (bits .xor .u32 a b)) := by
  have := does_of 9 a b _ f _ 1 (by decide) classOf_9 rfl rfl (reck_xor a b f h)
  exact this
theorem do_not (a b : Int) (f : Nat → Bool) (h : 0 ≤ a ∧ a ≤ 4294967295) : Does 14 a b f (4294967295 - a) f := by
  have := does_of 14 a b _ f _ 0 (by decide) classOf_14 rfl rfl (reck_not a b f h)
  exact this
end Go.Proofs.YtgeeecoclhomiaaDoor
