/- The document's host reckons. -/
import Derived.Test.YtbalnlodkiejcaaDoorQ1
import Derived.Test.YtbalnlodkiejcaaDoorC10
namespace Go.Proofs.YtbalnlodkiejcaaDoor
open Go.RowKit
set_option linter.unusedVariables false
set_option linter.unusedSimpArgs false
set_option linter.unusedSectionVars false

theorem rone_any (c : Bool) (w : World) : Calls Tryd.prog 37 #[.bool c] w fun e w' => e = .returned (.int .u32 (oneL c)) ∧ w = w' := by
  go_enter Tryd.func37, Tryd.ntmps37
  cases c
  all_goals (go_wp2; go_ret; exact ⟨rfl, rfl⟩)
theorem rtaken_any (op a b : Int) (w : World) : Calls Tryd.prog 26 #[.int .i64 op, .int .u32 a, .int .u32 b] w fun e w' => e = .returned (.bool (takenL op a b)) ∧ w = w' := by
  have h1 := bd32 a
  have h2 := bd32 b
  go_enter Tryd.func26, Tryd.ntmps26
  go_wp2
  all_goals (go_ret; refine ⟨ret_bool ?_, rfl⟩; simp_all [takenL])
theorem mulhsu {a b : Int} (ha : 0 ≤ a ∧ a ≤ 4294967295) (hb : 0 ≤ b ∧ b ≤ 4294967295) : wrap32 a * b % 18446744073709551616 / 4294967296 % 4294967296 = (a * b / 4294967296 - (if wrap32 a < 0 then b else 0)) % 4294967296 := by
  have hw : wrap32 a = a ∨ (wrap32 a = a - 4294967296 ∧ wrap32 a < 0) := by unfold wrap32; omega
  have hw2 : wrap32 a = a → ¬ wrap32 a < 0 := fun h => by omega
  rcases hw with h | ⟨h, hn⟩
  · rw [if_neg (hw2 h), h]
    have := mul_bd ha hb
    generalize a * b = p at *
    omega
  · rw [if_pos hn, h, Int.sub_mul]
    have := mul_bd ha hb
    generalize a * b = p at *
    omega
theorem odd_quot : quotL 42 2147483648 4294967295 = 2147483648 := by kernel_rfl
theorem odd_rest : quotL 44 2147483648 4294967295 = 0 := by kernel_rfl
theorem mulhsu' {a b : Int} (ha : 0 ≤ a ∧ a ≤ 4294967295) (hb : 0 ≤ b ∧ b ≤ 4294967295) : IntKind.u64.wrap (wrap64 (wrap32 a * b)) / 4294967296 % 4294967296 = aluL 40 a b := by
  have h := mulhsu ha hb
  have e : IntKind.u64.wrap (wrap64 (wrap32 a * b)) = wrap32 a * b % 18446744073709551616 := by
    rw [IntKind.wrap_u64]
    unfold wrap64
    generalize wrap32 a * b = x
    omega
  rw [e, h]
  simp [aluL, prodL]
theorem wrap64_twice (x : Int) : wrap64 (wrap64 x) = wrap64 x := by unfold wrap64; omega
set_option maxHeartbeats 1000000 in
theorem muldiv_md (op a b : Int) (ho : op = 38 ∨ op = 39 ∨ op = 40 ∨ op = 41) (ha : 0 ≤ a ∧ a ≤ 4294967295) (hb : 0 ≤ b ∧ b ≤ 4294967295) (w : World) :
    Calls Tryd.prog 38 #[.int .i64 op, .int .u32 a, .int .u32 b] w fun e w' => e = .returned (.int .u32 (aluL op a b)) ∧ w = w' := by
  have h1 := bd32 a
  have h2 := bd32 b
  have hab := mul_sbd h1 h2
  have hmh := hid (mulhsu' ha hb)
  have hU := fun w => rmulU_any a b ha hb w
  have hS := fun w => rmulS_any a b w
  by_cases ha2 : a = 2147483648
  · subst ha2
    rcases ho with rfl | rfl | rfl | rfl
    all_goals (go_enter Tryd.func38, Tryd.ntmps38; go_wp2_with (first | (go_at_call 47; refine (hU _).mono ?_; rintro e w' ⟨rfl, rfl⟩) | (go_at_call 48; refine (hS _).mono ?_; rintro e w' ⟨rfl, rfl⟩)))
    all_goals (go_ret; refine ⟨ret_int ?_, rfl⟩)
    all_goals (first | exact hmh.out | (simp [aluL, prodL]; done) | (rw [wrap64_twice]; exact hmh.out))
  · rcases ho with rfl | rfl | rfl | rfl
    all_goals (go_enter Tryd.func38, Tryd.ntmps38; go_wp2_with (first | (go_at_call 47; refine (hU _).mono ?_; rintro e w' ⟨rfl, rfl⟩) | (go_at_call 48; refine (hS _).mono ?_; rintro e w' ⟨rfl, rfl⟩)))
    all_goals (go_ret; refine ⟨ret_int ?_, rfl⟩)
    all_goals (first | exact hmh.out | (simp [aluL, prodL]; done) | (rw [wrap64_twice]; exact hmh.out))
set_option maxHeartbeats 1000000 in
theorem muldiv_dv (op a b : Int) (ho : op = 42 ∨ op = 43 ∨ op = 44 ∨ op = 45) (ha : 0 ≤ a ∧ a ≤ 4294967295) (hb : 0 ≤ b ∧ b ≤ 4294967295) (w : World) :
    Calls Tryd.prog 38 #[.int .i64 op, .int .u32 a, .int .u32 b] w fun e w' => e = .returned (.int .u32 (quotL op a b)) ∧ w = w' := by
  have h1 := bd32 a
  have h2 := bd32 b
  have hdd := hid (ediv_bd ha hb.1)
  have hee := hid (emod_bd ha hb.1)
  have hU := fun w => rmulU_any a b ha hb w
  have hS := fun w => rmulS_any a b w
  by_cases h0 : b = 0
  · subst h0
    rcases ho with rfl | rfl | rfl | rfl
    all_goals (go_enter Tryd.func38, Tryd.ntmps38; go_wp2_with (first | (go_at_call 47; refine (hU _).mono ?_; rintro e w' ⟨rfl, rfl⟩) | (go_at_call 48; refine (hS _).mono ?_; rintro e w' ⟨rfl, rfl⟩)))
    all_goals (go_ret; refine ⟨ret_int ?_, rfl⟩)
    all_goals (first | (simp [quotL]; done) | (simp [quotL]; omega))
  · by_cases hodd : a = 2147483648 ∧ b = 4294967295
    · obtain ⟨rfl, rfl⟩ := hodd
      rcases ho with rfl | rfl | rfl | rfl
      all_goals (go_enter Tryd.func38, Tryd.ntmps38; go_wp2_with (first | (go_at_call 47; refine (hU _).mono ?_; rintro e w' ⟨rfl, rfl⟩) | (go_at_call 48; refine (hS _).mono ?_; rintro e w' ⟨rfl, rfl⟩)))
      all_goals (go_ret; refine ⟨ret_int ?_, rfl⟩)
      all_goals (first | kernel_rfl | (simp [quotL]; done))
    · have hw0 : ¬ wrap32 b = 0 := fun e => h0 ((wrap32_zero hb).1 e)
      have hab : a = 2147483648 → ¬ b = 4294967295 := fun e e2 => hodd ⟨e, e2⟩
      have hQ : quotL 42 a b = Int.tdiv (wrap32 a) (wrap32 b) % 4294967296 := by simp [quotL, h0]
      have hR : quotL 44 a b = Int.tmod (wrap32 a) (wrap32 b) % 4294967296 := by simp [quotL, h0]
      have hq : quotL 43 a b = a / b := by simp [quotL, h0]
      have hr : quotL 45 a b = a % b := by simp [quotL, h0]
      replace hQ := hid hQ
      replace hR := hid hR
      replace hq := hid hq
      replace hr := hid hr
      by_cases ha2 : a = 2147483648
      · have hb2 := hab ha2
        clear hab hodd
        subst ha2
        rcases ho with rfl | rfl | rfl | rfl
        all_goals (go_enter Tryd.func38, Tryd.ntmps38; go_wp2_with (first | (go_at_call 47; refine (hU _).mono ?_; rintro e w' ⟨rfl, rfl⟩) | (go_at_call 48; refine (hS _).mono ?_; rintro e w' ⟨rfl, rfl⟩)))
        all_goals (go_ret; refine ⟨ret_int ?_, rfl⟩)
        all_goals (first | exact hq.out.symm | exact hr.out.symm | (rw [hQ.out]; done) | (rw [hR.out]; done) | exact hQ.out.symm | exact hR.out.symm | (rw [hQ.out]; unfold wrap32; omega))
      · clear hab hodd
        rcases ho with rfl | rfl | rfl | rfl
        all_goals (go_enter Tryd.func38, Tryd.ntmps38; go_wp2_with (first | (go_at_call 47; refine (hU _).mono ?_; rintro e w' ⟨rfl, rfl⟩) | (go_at_call 48; refine (hS _).mono ?_; rintro e w' ⟨rfl, rfl⟩)))
        all_goals (go_ret; refine ⟨ret_int ?_, rfl⟩)
        all_goals (first | exact hq.out.symm | exact hr.out.symm | (rw [hQ.out]; done) | (rw [hR.out]; done) | exact hQ.out.symm | exact hR.out.symm | (rw [hQ.out]; unfold wrap32; omega))
theorem and31_mod (b : Int) (hb : 0 ≤ b ∧ b ≤ 4294967295) : bits .and .u32 b 31 = b % 32 := and31 b hb
set_option maxHeartbeats 1000000 in
theorem rAlu_any (op a b : Int) (ho : 28 ≤ op ∧ op ≤ 45) (ha : 0 ≤ a ∧ a ≤ 4294967295) (hb : 0 ≤ b ∧ b ≤ 4294967295) (w : World) :
    Calls Tryd.prog 27 #[.int .i64 op, .int .u32 a, .int .u32 b] w fun e w' => e = .returned (.int .u32 (aluL op a b)) ∧ w = w' := by
  have hs1 := bd32 a
  have hs2 := bd32 b
  have h31 := and31_mod b hb
  have hmd := fun h w => muldiv_md op a b h ha hb w
  have hdv := fun h w => muldiv_dv op a b h ha hb w
  rcases (by omega : (op = 28 ∨ op = 29 ∨ op = 30 ∨ op = 31 ∨ op = 32 ∨ op = 33 ∨ op = 34 ∨ op = 35 ∨ op = 36 ∨ op = 37) ∨ (op = 38 ∨ op = 39 ∨ op = 40 ∨ op = 41) ∨ (op = 42 ∨ op = 43 ∨ op = 44 ∨ op = 45)) with h | h | h
  · clear hmd hdv
    rcases h with rfl | rfl | rfl | rfl | rfl | rfl | rfl | rfl | rfl | rfl
    all_goals (go_enter Tryd.func27, Tryd.ntmps27; go_wp2_with (first | (go_at_call 37; refine (rone_any _ _).mono ?_; rintro e w' ⟨rfl, rfl⟩)))
    all_goals (go_ret; refine ⟨ret_int ?_, rfl⟩)
    all_goals (first | (simp [aluL]; done))
  · have hm := hmd h
    clear hmd hdv
    rcases h with rfl | rfl | rfl | rfl
    all_goals (go_enter Tryd.func27, Tryd.ntmps27; go_wp2_with (first | (go_at_call 38; refine (hm _).mono ?_; rintro e w' ⟨rfl, rfl⟩)))
    all_goals (go_ret; exact ⟨rfl, rfl⟩)
  · have hm := hdv h
    have hq : aluL op a b = quotL op a b := by rcases h with rfl | rfl | rfl | rfl <;> rfl
    rw [hq]
    clear hmd hdv hq
    rcases h with rfl | rfl | rfl | rfl
    all_goals (go_enter Tryd.func27, Tryd.ntmps27; go_wp2_with (first | (go_at_call 38; refine (hm _).mono ?_; rintro e w' ⟨rfl, rfl⟩)))
    all_goals (go_ret; exact ⟨rfl, rfl⟩)
theorem rset_any {R M : Nat} {s : St} {w : World} (h : RAt w R M s) (i v : Int) (hi : 0 ≤ i ∧ i < 32) (hv : 0 ≤ v ∧ v ≤ 4294967295) :
    Calls Tryd.prog 25 #[rp R, .int .i64 i, .int .u32 v] w fun e w' => e = .returned (.tuple #[]) ∧ RAt w' R M (setS s i v) ∧ But [R] w.heap.size w w' := by
  by_cases h0 : i = 0
  · subst h0
    have hs : setS s 0 v = s := by unfold setS; rw [setX_out (by decide)]
    rw [hs]
    go_enter Tryd.func25, Tryd.ntmps25
    go_wp2
    all_goals (exact bodyPost_end (v := .tuple #[]) (by simp [results, Tryd.results25, go_sem]) rfl ⟨rfl, h, But.refl _ _ _⟩)
  · obtain ⟨k, rfl⟩ := Int.eq_ofNat_of_zero_le hi.1
    have hk : k < 32 := by omega
    have hc := h.x k hk
    have hf := h.fr k
    have hx := h.set_x k (by omega) hk hv
    go_enter Tryd.func25, Tryd.ntmps25
    go_wp2
    exact bodyPost_end (v := .tuple #[]) (by simp [results, Tryd.results25, go_sem]) rfl ⟨rfl, hx, (But.refl _ _ _).setCell (by simp) _⟩
end Go.Proofs.YtbalnlodkiejcaaDoor
