import Derived.Test.YtcdoidnfdkodoaaGreatDoorV16
namespace Go.Proofs.YtcdoidnfdkodoaaGreatDoor
open Go.RowKit
set_option linter.unusedVariables false
set_option linter.unusedSimpArgs false
set_option linter.unusedSectionVars false
theorem flipD (C : Int) (hC : 0 ≤ C ∧ C ≤ 15) : bits .xor .i64 C 1 = ((C.toNat ^^^ 1 : Nat) : Int) ∧ ((C.toNat ^^^ 1 : Nat) : Int) ≤ 15 :=
  sixteen (P := fun C => bits .xor .i64 C 1 = ((C.toNat ^^^ 1 : Nat) : Int) ∧ ((C.toNat ^^^ 1 : Nat) : Int) ≤ 15) (by decide) C hC
theorem and255 (x : Int) (h : 0 ≤ x ∧ x ≤ 4294967295) : bits .and .u32 x 255 = x % 256 := and_mask x 8 h (by decide)
theorem setb_r0 (g : Gs) (v : Int) : (setb g 0 v).r 0 = setB (g.r 0) 0 v := rfl
theorem conds_all (g : Gs) (ok : g.ok) (c v d : Int) (wc : 0 ≤ c ∧ c ≤ 255) (hv : 0 ≤ v ∧ v ≤ 4294967295) (hd : 0 ≤ d ∧ d ≤ 4294967295) (w : World) (tabs : Tb w) :
    Calls Tryz.prog 11 #[stV g, .int .u8 c, .int .u32 v, .int .u32 d] w fun e w' => e = .returned (.bool true) ∧ Below w.heap.size w w' := by
  have hC : 0 ≤ c % 16 ∧ c % 16 ≤ 15 := by omega
  obtain ⟨hD, hD15⟩ := flipD (c % 16) hC
  have ok1 : (setr g 2 v).ok := setr_ok13 ok 2 hv
  have hr0 := ok1.r 0
  have hq := cq_bd (setr g 2 v) (c % 16)
  have hq2 := cq_bd (setr g 2 v) (((c % 16).toNat ^^^ 1 : Nat) : Int)
  have s1 := setB0 ((setr g 2 v).r 0) (cq (setr g 2 v) (c % 16)) hr0.1 hq
  have s2 := setB0 ((setr g 2 v).r 0) (cq (setr g 2 v) (((c % 16).toNat ^^^ 1 : Nat) : Int)) hr0.1 hq2
  have b1 : 0 ≤ setB ((setr g 2 v).r 0) 0 (cq (setr g 2 v) (c % 16)) ∧ setB ((setr g 2 v).r 0) 0 (cq (setr g 2 v) (c % 16)) ≤ 4294967295 := by
    have := s1.1; have := s1.2; omega
  have b2 : 0 ≤ setB ((setr g 2 v).r 0) 0 (cq (setr g 2 v) (((c % 16).toNat ^^^ 1 : Nat) : Int)) ∧ setB ((setr g 2 v).r 0) 0 (cq (setr g 2 v) (((c % 16).toNat ^^^ 1 : Nat) : Int)) ≤ 4294967295 := by
    have := s2.1; have := s2.2; omega
  have hfl : cq (setr g 2 v) (((c % 16).toNat ^^^ 1 : Nat) : Int) = 1 - cq (setr g 2 v) (c % 16) := by
    unfold cq
    rw [Int.toNat_natCast, condL_flip _ _ (by omega)]
    cases condL (setr g 2 v).f (c % 16).toNat <;> rfl
  have hia : bits .and .u32 ((setb (goOn (setr g 2 v) (iSet (c % 16))) 0 (cq (setr g 2 v) (c % 16))).r 0) 255 = cq (setr g 2 v) (c % 16) := by
    rw [setb_r0]; exact (and255 _ b1).trans s1.1
  have hif : bits .and .u32 ((setb (goOn (setr g 2 v) (iSet (((c % 16).toNat ^^^ 1 : Nat) : Int))) 0 (cq (setr g 2 v) (((c % 16).toNat ^^^ 1 : Nat) : Int))).r 0) 255 = cq (setr g 2 v) (((c % 16).toNat ^^^ 1 : Nat) : Int) := by
    rw [setb_r0]; exact (and255 _ b2).trans s2.1
  have hA : DoR Mm.new (setr g 2 v) (iSet (c % 16)) (setb (goOn (setr g 2 v) (iSet (c % 16))) 0 (cq (setr g 2 v) (c % 16))) Mm.new := fun W B h t => do_set h t _ ok1 _ hC
  have hF : DoR Mm.new (setr g 2 v) (iSet (((c % 16).toNat ^^^ 1 : Nat) : Int)) (setb (goOn (setr g 2 v) (iSet (((c % 16).toNat ^^^ 1 : Nat) : Int))) 0 (cq (setr g 2 v) (((c % 16).toNat ^^^ 1 : Nat) : Int))) Mm.new := fun W B h t => do_set h t _ ok1 _ ⟨by omega, hD15⟩
  have hwr : IntKind.u32.wrap (1 - cq (setr g 2 v) (c % 16)) = cq (setr g 2 v) (((c % 16).toNat ^^^ 1 : Nat) : Int) := by
    rw [hfl]
    rcases (by omega : cq (setr g 2 v) (c % 16) = 0 ∨ cq (setr g 2 v) (c % 16) = 1) with h | h <;> rw [h] <;> rfl
  cases hq0 : condL (setr g 2 v).f (c % 16).toNat with
  | false =>
    have h0 : cq (setr g 2 v) (c % 16) = 0 := by unfold cq; rw [hq0]; rfl
    refine conds_walk g ok c v d wc hv hd _ (goOn (setr g 2 v) (iCmov (c % 16))) { setr g 2 v with pc := ((setr g 2 v).pc + 2) % 4294967296 } _ _ _ _ _ hD rfl s1.2 rfl hia hq.2 hif hwr ?_ ?_ rfl (Lib.hid hA)
      (Lib.hid fun W B h t => do_cmov_no h t _ _ hC hq0) (Lib.hid fun W B h t => do_jcc_no h t _ _ d hC hq0) (Lib.hid hF) w tabs
    · rw [hia, h0]; rfl
    · rw [hia, h0]; rfl
  | true =>
    have h0 : cq (setr g 2 v) (c % 16) = 1 := by unfold cq; rw [hq0]; rfl
    refine conds_walk g ok c v d wc hv hd _ (setr (goOn (setr g 2 v) (iCmov (c % 16))) 1 ((setr g 2 v).r 2)) { setr g 2 v with pc := (((setr g 2 v).pc + 2) % 4294967296 + d) % 4294967296 } _ _ _ _ _ hD rfl s1.2 rfl hia hq.2 hif hwr ?_ ?_ rfl (Lib.hid hA)
      (Lib.hid fun W B h t => do_cmov_yes h t _ _ hC hq0) (Lib.hid fun W B h t => do_jcc_yes h t _ _ d hC hd hq0) (Lib.hid hF) w tabs
    · rw [hia, h0]; rfl
    · rw [hia, h0]; rfl
end Go.Proofs.YtcdoidnfdkodoaaGreatDoor
