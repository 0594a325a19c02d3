/- AsmConst. -/
import Derived.Test.YtbalnlodkiejcaaDoorA7
import Derived.Test.YtbalnlodkiejcaaDoorA8
import Derived.Test.YtbalnlodkiejcaaDoorKit
namespace Go.Proofs.YtbalnlodkiejcaaDoor
open Go.RowKit
set_option linter.unusedVariables false
set_option linter.unusedSimpArgs false
set_option linter.unusedSectionVars false

theorem do_addi (s : St) (d a i : Int) : doL s 19 d a 0 i = .go 0 { s with x := setX s.x d ((s.x a + (s.x 0 + i) % 4294967296) % 4294967296), pc := (s.pc + 4) % 4294967296 } := by simp [doL, aluL]
theorem do_lui (s : St) (d i : Int) : doL s 1 d 0 0 i = .go 0 { s with x := setX s.x d ((s.x 0 + i) % 4294967296), pc := (s.pc + 4) % 4294967296 } := by simp [doL, aluL]
theorem regs_zero (X : Nat → Int) : regsK X 31 0 = 0 := by unfold regsK; rw [if_neg (by omega)]
theorem low_zero {v : Int} : loL v = 0 ↔ v % 4096 = 0 := by rw [loL_is]; omega
theorem high_zero {v : Int} (hv : 0 ≤ v ∧ v ≤ 4294967295) : hiL v = 0 ↔ -2048 ≤ wrap32 v ∧ wrap32 v < 2048 := by rw [hiL_is, loL_is]; unfold wrap32; omega
theorem parts_sum {v : Int} (hv : 0 ≤ v ∧ v ≤ 4294967295) : (hiL v % 4294967296 + loL v % 4294967296) % 4294967296 = v := by rw [hiL_is, loL_is]; unfold wrap32; omega
theorem and_low12 (v : Int) (hv : 0 ≤ v ∧ v ≤ 4294967295) : bits .and .u32 v 4095 = v % 4096 := and_mask v 12 hv (by decide)
theorem setX_twice (x : Int → Int) (i a b : Int) : setX (setX x i a) i b = setX x i b := by
  funext j
  unfold setX
  split <;> rfl
theorem setX_self (x : Int → Int) (i a : Int) (hi : 0 < i ∧ i < 32) : setX x i a i = a := by unfold setX; rw [if_pos ⟨rfl, hi.1, hi.2⟩]
theorem setX_zero' (x : Int → Int) (i a : Int) (hi : 0 < i) : setX x i a 0 = x 0 := by unfold setX; rw [if_neg (by omega)]
theorem const_no (rd v : Int) (cs : Array Value) (hb : setB rd = false) (w : World) (tabs : Tabs w) :
    Calls Tryd.prog 3 #[.int .i64 rd, .int .u32 v, .agg cs] w fun e w' => e = .returned (.bool true) ∧ Below w.heap.size w w' := by
  have ka : Below w.heap.size w (w.alloc (.cells cs 23)) := (Below.refl _ _).alloc (Nat.le_refl _) _
  have ta := tabs.below ka
  have hc := fun w => const_none rd v hb w
  have hrd : rd < 1 ∨ (1 ≤ rd ∧ 31 < rd) := by unfold setB at hb; simp at hb; omega
  clear hb
  rcases hrd with h1 | ⟨h1, h2⟩
  all_goals
    go_enter Tryd.func3, Tryd.ntmps3
    go_wp2_with fail
    refine (kn_any _ ta).mono ?_
    rintro e w0 ⟨rfl, b0⟩
    replace ka := ka.trans (b0.mono (by simp))
    clear b0 ta
    go_wp2_with fail
    refine (hc _).mono ?_
    rintro e w1 ⟨rfl, rfl⟩
    go_wp2_with fail
    go_ret
    exact ⟨rfl, ka⟩
theorem const_law (rd v : Int) (cs : Array Value) (X : Nat → Int) (hv : 0 ≤ v ∧ v ≤ 4294967295)
    (hX : cs.size = 31 ∧ ∀ i, i < 31 → cs[i]? = some (.int .u32 (X i)) ∧ 0 ≤ X i ∧ X i ≤ 4294967295) (w : World) (tabs : Tabs w) :
    Calls Tryd.prog 3 #[.int .i64 rd, .int .u32 v, .agg cs] w fun e w' => e = .returned (.bool true) ∧ Below w.heap.size w w' := by
  cases hb : setB rd with
  | false => exact const_no rd v cs hb w tabs
  | true =>
    have hrd : 1 ≤ rd ∧ rd ≤ 31 := by unfold setB at hb; simp at hb; omega
    obtain ⟨r, rfl⟩ := Int.eq_ofNat_of_zero_le (show 0 ≤ rd by omega)
    have hr : 1 ≤ r ∧ r ≤ 31 := by omega
    have hand := and_low12 v hv
    by_cases h0 : hiL v = 0
    · have hl := isL_addi hb (.inl rfl) (loL_bd v)
      have hlo : loL v % 4294967296 = v := by have := parts_sum hv; rw [h0] at this; simpa using this
      refine const_walk1 r v _ cs X hv hr hX (fun w tb => const_low _ v _ hb hv h0 rfl w tb) (.inl ((high_zero hv).1 h0)) (enc_bd hl) { storeS (regS X 31) 1024 4 (encL 19 r 0 0 (loL v)) with x := setX (storeS (regS X 31) 1024 4 (encL 19 r 0 0 (loL v))).x r v, pc := 1028 } ?_ rfl rfl w tabs
      rw [step_word (op := 19) (d := r) (a := 0) (b := 0) (i := loL v) (by rfl) (load_store (enc_bd hl)) hl, do_addi]
      have z : (storeS (regS X 31) 1024 4 (encL 19 r 0 0 (loL v))).x 0 = 0 := regs_zero X
      rw [z]
      simp only [Out.told]
      congr 2
      congr 1
      omega
    · by_cases h1 : loL v = 0
      · have hl := isL_lui hb (hiL_bd v) (hiL_low v)
        have hhi : hiL v % 4294967296 = v := by have := parts_sum hv; rw [h1] at this; simpa using this
        have hsm : wrap32 v < -2048 ∨ (-2048 ≤ wrap32 v ∧ 2048 ≤ wrap32 v) := by have := mt (high_zero hv).2 h0; omega
        have hz := low_zero.1 h1
        rw [hz] at hand
        refine const_walk1 r v _ cs X hv hr hX (fun w tb => const_high _ v _ hb hv h1 h0 rfl w tb) (.inr (hsm.elim (fun h => .inl ⟨h, hand⟩) (fun h => .inr ⟨h.1, h.2, hand⟩))) (enc_bd hl) { storeS (regS X 31) 1024 4 (encL 1 r 0 0 (hiL v)) with x := setX (storeS (regS X 31) 1024 4 (encL 1 r 0 0 (hiL v))).x r v, pc := 1028 } ?_ rfl rfl w tabs
        rw [step_word (op := 1) (d := r) (a := 0) (b := 0) (i := hiL v) (by rfl) (load_store (enc_bd hl)) hl, do_lui]
        have z : (storeS (regS X 31) 1024 4 (encL 1 r 0 0 (hiL v))).x 0 = 0 := regs_zero X
        rw [z]
        simp only [Out.told]
        congr 2
        congr 1
        omega
      · have hl := isL_lui hb (hiL_bd v) (hiL_low v)
        have hk := isL_addi hb (.inr rfl) (loL_bd v)
        have hsum := parts_sum hv
        have hsm : wrap32 v < -2048 ∨ (-2048 ≤ wrap32 v ∧ 2048 ≤ wrap32 v) := by have := mt (high_zero hv).2 h0; omega
        have hz := mt low_zero.2 h1
        have hand2 : (bits .and .u32 v 4095 == 0) = false := by rw [hand]; simpa using hz
        have bx := enc_bd hl
        have by_ := enc_bd hk
        refine const_walk2 r v _ _ cs X hv hr hX (fun w tb => const_both _ v _ _ hb hv h1 h0 rfl rfl w tb) (hsm.elim (fun h => .inl ⟨h, hand2⟩) (fun h => .inr ⟨h.1, h.2, hand2⟩)) bx by_
          { storeS (storeS (regS X 31) 1024 4 (encL 1 r 0 0 (hiL v))) 1028 4 (encL 19 r r 0 (loL v)) with x := setX (storeS (storeS (regS X 31) 1024 4 (encL 1 r 0 0 (hiL v))) 1028 4 (encL 19 r r 0 (loL v))).x r (hiL v % 4294967296), pc := 1028 }
          { storeS (storeS (regS X 31) 1024 4 (encL 1 r 0 0 (hiL v))) 1028 4 (encL 19 r r 0 (loL v)) with x := setX (storeS (storeS (regS X 31) 1024 4 (encL 1 r 0 0 (hiL v))) 1028 4 (encL 19 r r 0 (loL v))).x r v, pc := 1032 } ?_ ?_ rfl rfl w tabs
        · have hw : wordM (storeS (storeS (regS X 31) 1024 4 (encL 1 r 0 0 (hiL v))) 1028 4 (encL 19 r r 0 (loL v))).m 1024 4 = encL 1 r 0 0 (hiL v) := (load_other (by omega)).trans (load_store bx)
          rw [step_word (op := 1) (d := r) (a := 0) (b := 0) (i := hiL v) (by rfl) hw hl, do_lui]
          have z : (storeS (storeS (regS X 31) 1024 4 (encL 1 r 0 0 (hiL v))) 1028 4 (encL 19 r r 0 (loL v))).x 0 = 0 := regs_zero X
          rw [z]
          simp only [Out.told]
          congr 2
          congr 1
          omega
        · generalize hS : storeS (storeS (regS X 31) 1024 4 (encL 1 r 0 0 (hiL v))) 1028 4 (encL 19 r r 0 (loL v)) = S
          have hm : S.m = storeM (storeS (regS X 31) 1024 4 (encL 1 r 0 0 (hiL v))).m 1028 4 (encL 19 r r 0 (loL v)) := by rw [← hS]; rfl
          have hw : wordM S.m 1028 4 = encL 19 r r 0 (loL v) := by rw [hm]; exact load_store by_
          have z : S.x 0 = 0 := by rw [← hS]; exact regs_zero X
          clear hS hm
          rw [step_word (s := { S with x := setX S.x r (hiL v % 4294967296), pc := 1028 }) (op := 19) (d := r) (a := r) (b := 0) (i := loL v) (by rfl) hw hk, do_addi]
          simp only [Out.told]
          rw [setX_self _ _ _ (by omega), setX_zero' _ _ _ (by omega), z, setX_twice]
          congr 2
          congr 1
          omega
end Go.Proofs.YtbalnlodkiejcaaDoor
