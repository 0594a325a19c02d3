/- Each row's way is one of the document's (no program). -/
import Derived.Test.YtbfkgakkkibejaaDoorW3
namespace Go.Proofs.YtbfkgakkkibejaaDoor
open Go.RowKit
set_option linter.unusedVariables false
set_option linter.unusedSimpArgs false
set_option linter.unusedSectionVars false

theorem op_n {c n g cc op a b : Int} (h : ¬ op < 54) (hg : ¬ g = 65479) (hn : 0 ≤ n ∧ n < 8) : opM c (8 * n) ⟨g, cc, op, a, b⟩ = grp (op - 54).toNat n.toNat := by
  unfold opM
  dsimp only
  rw [if_neg h, if_neg hg, show 8 * n / 8 % 8 = n by omega]
theorem kind_of' {o : On} (h : RM o) : o.k = 1 ∨ o.k = 3 := by
  rcases h with ⟨r, h1, h2, rfl⟩ | ⟨m, b, x, s, rfl, h⟩ <;> simp [onReg, onMem]
theorem nat_of' {n : Int} (h : 0 ≤ n ∧ n < 8) : n = 0 ∨ n = 1 ∨ n = 2 ∨ n = 3 ∨ n = 4 ∨ n = 5 ∨ n = 6 ∨ n = 7 := by omega
theorem rm_k {o : On} (h : RMb o) : ¬ o.k = 2 := by rcases kind_of' h.1 with h | h <;> omega
theorem mw_0 {k : In} {c n : Int} {t : List Int} (H : ByRow k (⟨65479, 1, 54, 6, 5⟩ : Rw) c n t) : wayR (⟨65479, 1, 54, 6, 5⟩ : Rw) c t k.A k.B ∈ waysL k := by
  have hr := rel_of H.cb H.row
  have hA : RMb k.A ∧ t ∈ modT k.A n := Eq.mp (if_pos rfl) H.A
  have hB : k.B = onReg n := Eq.mp (if_neg (by decide)) H.B
  have hop := H.op
  have hcc := H.cc
  have hrep := H.rep
  have hcb := H.cb
  have hn := H.nb
  have hne := H.ne
  clear H
  obtain ⟨op, cc, A, B, rep, l⟩ := k
  dsimp only at hA hB hop hcc hrep hne ⊢
  have hc : c - 8 * (c / 8 % 8) = 1 := by simpa [rel] using hr
  clear hr
  obtain ⟨hR, ht⟩ := hA
  subst hB
  have hc8 : c = 1 ∨ c = 9 ∨ c = 17 ∨ c = 25 ∨ c = 33 ∨ c = 41 ∨ c = 49 ∨ c = 57 := by omega
  rcases hc8 with rfl | rfl | rfl | rfl | rfl | rfl | rfl | rfl
  · obtain rfl : op = 3 := hop.symm
    rw [wl_3]
    rw [if_neg (show ¬ (onReg n).k = 2 by simp [onReg])]; exact List.mem_append_left _ (by rw [if_pos (show (onReg n).k = 1 from rfl)]; exact in_mW ht (by simp [wayR, opB, codeB, onImm, onReg, onZ]))
  · obtain rfl : op = 4 := hop.symm
    rw [wl_4]
    rw [if_neg (show ¬ (onReg n).k = 2 by simp [onReg])]; exact List.mem_append_left _ (by rw [if_pos (show (onReg n).k = 1 from rfl)]; exact in_mW ht (by simp [wayR, opB, codeB, onImm, onReg, onZ]))
  · obtain rfl : op = 5 := hop.symm
    rw [wl_5]
    rw [if_neg (show ¬ (onReg n).k = 2 by simp [onReg])]; exact List.mem_append_left _ (by rw [if_pos (show (onReg n).k = 1 from rfl)]; exact in_mW ht (by simp [wayR, opB, codeB, onImm, onReg, onZ]))
  · obtain rfl : op = 6 := hop.symm
    rw [wl_6]
    rw [if_neg (show ¬ (onReg n).k = 2 by simp [onReg])]; exact List.mem_append_left _ (by rw [if_pos (show (onReg n).k = 1 from rfl)]; exact in_mW ht (by simp [wayR, opB, codeB, onImm, onReg, onZ]))
  · obtain rfl : op = 7 := hop.symm
    rw [wl_7]
    rw [if_neg (show ¬ (onReg n).k = 2 by simp [onReg])]; exact List.mem_append_left _ (by rw [if_pos (show (onReg n).k = 1 from rfl)]; exact in_mW ht (by simp [wayR, opB, codeB, onImm, onReg, onZ]))
  · obtain rfl : op = 8 := hop.symm
    rw [wl_8]
    rw [if_neg (show ¬ (onReg n).k = 2 by simp [onReg])]; exact List.mem_append_left _ (by rw [if_pos (show (onReg n).k = 1 from rfl)]; exact in_mW ht (by simp [wayR, opB, codeB, onImm, onReg, onZ]))
  · obtain rfl : op = 9 := hop.symm
    rw [wl_9]
    rw [if_neg (show ¬ (onReg n).k = 2 by simp [onReg])]; exact List.mem_append_left _ (by rw [if_pos (show (onReg n).k = 1 from rfl)]; exact in_mW ht (by simp [wayR, opB, codeB, onImm, onReg, onZ]))
  · obtain rfl : op = 10 := hop.symm
    rw [wl_10]
    rw [if_neg (show ¬ (onReg n).k = 2 by simp [onReg])]; exact List.mem_append_left _ (by rw [if_pos (show (onReg n).k = 1 from rfl)]; exact in_mW ht (by simp [wayR, opB, codeB, onImm, onReg, onZ]))
theorem mw_1 {k : In} {c n : Int} {t : List Int} (H : ByRow k (⟨65479, 3, 54, 5, 6⟩ : Rw) c n t) : wayR (⟨65479, 3, 54, 5, 6⟩ : Rw) c t k.A k.B ∈ waysL k := by
  have hr := rel_of H.cb H.row
  have hA : k.A = onReg n := Eq.mp (if_neg (by decide)) H.A
  have hB : RMb k.B ∧ t ∈ modT k.B n := Eq.mp (if_pos rfl) H.B
  have hop := H.op
  have hcc := H.cc
  have hrep := H.rep
  have hcb := H.cb
  have hn := H.nb
  have hne := H.ne
  clear H
  obtain ⟨op, cc, A, B, rep, l⟩ := k
  dsimp only at hA hB hop hcc hrep hne ⊢
  have hc : c - 8 * (c / 8 % 8) = 3 := by simpa [rel] using hr
  clear hr
  subst hA
  obtain ⟨hR, ht⟩ := hB
  have hc8 : c = 3 ∨ c = 11 ∨ c = 19 ∨ c = 27 ∨ c = 35 ∨ c = 43 ∨ c = 51 ∨ c = 59 := by omega
  rcases hc8 with rfl | rfl | rfl | rfl | rfl | rfl | rfl | rfl
  · obtain rfl : op = 3 := hop.symm
    rw [wl_3]
    rw [if_neg (rm_k hR)]; exact List.mem_append_right _ (by rw [if_pos (show (onReg n).k = 1 from rfl)]; exact in_mW ht (by simp [wayR, opB, codeB, onImm, onReg, onZ]))
  · obtain rfl : op = 4 := hop.symm
    rw [wl_4]
    rw [if_neg (rm_k hR)]; exact List.mem_append_right _ (by rw [if_pos (show (onReg n).k = 1 from rfl)]; exact in_mW ht (by simp [wayR, opB, codeB, onImm, onReg, onZ]))
  · obtain rfl : op = 5 := hop.symm
    rw [wl_5]
    rw [if_neg (rm_k hR)]; exact List.mem_append_right _ (by rw [if_pos (show (onReg n).k = 1 from rfl)]; exact in_mW ht (by simp [wayR, opB, codeB, onImm, onReg, onZ]))
  · obtain rfl : op = 6 := hop.symm
    rw [wl_6]
    rw [if_neg (rm_k hR)]; exact List.mem_append_right _ (by rw [if_pos (show (onReg n).k = 1 from rfl)]; exact in_mW ht (by simp [wayR, opB, codeB, onImm, onReg, onZ]))
  · obtain rfl : op = 7 := hop.symm
    rw [wl_7]
    rw [if_neg (rm_k hR)]; exact List.mem_append_right _ (by rw [if_pos (show (onReg n).k = 1 from rfl)]; exact in_mW ht (by simp [wayR, opB, codeB, onImm, onReg, onZ]))
  · obtain rfl : op = 8 := hop.symm
    rw [wl_8]
    rw [if_neg (rm_k hR)]; exact List.mem_append_right _ (by rw [if_pos (show (onReg n).k = 1 from rfl)]; exact in_mW ht (by simp [wayR, opB, codeB, onImm, onReg, onZ]))
  · obtain rfl : op = 9 := hop.symm
    rw [wl_9]
    rw [if_neg (rm_k hR)]; exact List.mem_append_right _ (by rw [if_pos (show (onReg n).k = 1 from rfl)]; exact in_mW ht (by simp [wayR, opB, codeB, onImm, onReg, onZ]))
  · obtain rfl : op = 10 := hop.symm
    rw [wl_10]
    rw [if_neg (rm_k hR)]; exact List.mem_append_right _ (by rw [if_pos (show (onReg n).k = 1 from rfl)]; exact in_mW ht (by simp [wayR, opB, codeB, onImm, onReg, onZ]))
theorem mw_2 {k : In} {c n : Int} {t : List Int} (H : ByRow k (⟨65479, 5, 54, 1, 9⟩ : Rw) c n t) : wayR (⟨65479, 5, 54, 1, 9⟩ : Rw) c t k.A k.B ∈ waysL k := by
  have hr := rel_of H.cb H.row
  have hA : k.A = onReg 0 := Eq.mp (if_neg (by decide)) H.A
  have hB : k.B = onImm k.B.m ∧ 0 ≤ k.B.m ∧ k.B.m ≤ 4294967295 := Eq.mp (if_neg (by decide)) H.B
  have hop := H.op
  have hcc := H.cc
  have hrep := H.rep
  have hcb := H.cb
  have hn := H.nb
  have hne := H.ne
  have ht0 := (H.T (by decide)).1
  subst ht0
  clear H
  obtain ⟨op, cc, A, B, rep, l⟩ := k
  dsimp only at hA hB hop hcc hrep hne ⊢
  have hc : c - 8 * (c / 8 % 8) = 5 := by simpa [rel] using hr
  clear hr
  subst hA
  obtain ⟨hB1, hB2⟩ := hB
  obtain ⟨m, rfl⟩ : ∃ m, B = onImm m := ⟨_, hB1⟩
  have hc8 : c = 5 ∨ c = 13 ∨ c = 21 ∨ c = 29 ∨ c = 37 ∨ c = 45 ∨ c = 53 ∨ c = 61 := by omega
  rcases hc8 with rfl | rfl | rfl | rfl | rfl | rfl | rfl | rfl
  · obtain rfl : op = 3 := hop.symm
    rw [wl_3]
    rw [if_pos (show (onImm m).k = 2 from rfl)]; exact List.mem_append_left _ (List.mem_append_left _ (by rw [if_pos (show isR0 (onReg 0) = true from rfl)]; exact List.mem_singleton.2 (by simp [wayR, opB, codeB, onImm, onReg, onZ])))
  · obtain rfl : op = 4 := hop.symm
    rw [wl_4]
    rw [if_pos (show (onImm m).k = 2 from rfl)]; exact List.mem_append_left _ (List.mem_append_left _ (by rw [if_pos (show isR0 (onReg 0) = true from rfl)]; exact List.mem_singleton.2 (by simp [wayR, opB, codeB, onImm, onReg, onZ])))
  · obtain rfl : op = 5 := hop.symm
    rw [wl_5]
    rw [if_pos (show (onImm m).k = 2 from rfl)]; exact List.mem_append_left _ (List.mem_append_left _ (by rw [if_pos (show isR0 (onReg 0) = true from rfl)]; exact List.mem_singleton.2 (by simp [wayR, opB, codeB, onImm, onReg, onZ])))
  · obtain rfl : op = 6 := hop.symm
    rw [wl_6]
    rw [if_pos (show (onImm m).k = 2 from rfl)]; exact List.mem_append_left _ (List.mem_append_left _ (by rw [if_pos (show isR0 (onReg 0) = true from rfl)]; exact List.mem_singleton.2 (by simp [wayR, opB, codeB, onImm, onReg, onZ])))
  · obtain rfl : op = 7 := hop.symm
    rw [wl_7]
    rw [if_pos (show (onImm m).k = 2 from rfl)]; exact List.mem_append_left _ (List.mem_append_left _ (by rw [if_pos (show isR0 (onReg 0) = true from rfl)]; exact List.mem_singleton.2 (by simp [wayR, opB, codeB, onImm, onReg, onZ])))
  · obtain rfl : op = 8 := hop.symm
    rw [wl_8]
    rw [if_pos (show (onImm m).k = 2 from rfl)]; exact List.mem_append_left _ (List.mem_append_left _ (by rw [if_pos (show isR0 (onReg 0) = true from rfl)]; exact List.mem_singleton.2 (by simp [wayR, opB, codeB, onImm, onReg, onZ])))
  · obtain rfl : op = 9 := hop.symm
    rw [wl_9]
    rw [if_pos (show (onImm m).k = 2 from rfl)]; exact List.mem_append_left _ (List.mem_append_left _ (by rw [if_pos (show isR0 (onReg 0) = true from rfl)]; exact List.mem_singleton.2 (by simp [wayR, opB, codeB, onImm, onReg, onZ])))
  · obtain rfl : op = 10 := hop.symm
    rw [wl_10]
    rw [if_pos (show (onImm m).k = 2 from rfl)]; exact List.mem_append_left _ (List.mem_append_left _ (by rw [if_pos (show isR0 (onReg 0) = true from rfl)]; exact List.mem_singleton.2 (by simp [wayR, opB, codeB, onImm, onReg, onZ])))
theorem mw_3 {k : In} {c n : Int} {t : List Int} (H : ByRow k (⟨65528, 64, 12, 4, 0⟩ : Rw) c n t) : wayR (⟨65528, 64, 12, 4, 0⟩ : Rw) c t k.A k.B ∈ waysL k := by
  have hr := rel_of H.cb H.row
  have hA : k.A = onReg (c % 8) := Eq.mp (if_neg (by decide)) H.A
  have hB : k.B = onZ := Eq.mp (if_neg (by decide)) H.B
  have hop := H.op
  have hcc := H.cc
  have hrep := H.rep
  have hcb := H.cb
  have hn := H.nb
  have hne := H.ne
  have ht0 := (H.T (by decide)).1
  subst ht0
  clear H
  obtain ⟨op, cc, A, B, rep, l⟩ := k
  dsimp only at hA hB hop hcc hrep hne ⊢
  have hc : c - c % 8 = 64 := by simpa [rel] using hr
  clear hr
  subst hA
  subst hB
  obtain rfl : op = 12 := hop.symm.trans (if_pos (by decide))
  rw [wl_12]
  have e : wayR (⟨65528, 64, 12, 4, 0⟩ : Rw) c [] (onReg (c % 8)) onZ = [c] := by simp [wayR, opB, onReg, onZ, code1 (show c < 256 by omega)]
  rw [e]
  exact List.mem_append_left _ (by rw [if_pos (show (onReg (c % 8)).k = 1 from rfl)]; exact List.mem_singleton.2 (show [c] = [64 + c % 8] from congrArg (fun z => [z]) (by omega)))
theorem mw_4 {k : In} {c n : Int} {t : List Int} (H : ByRow k (⟨65528, 72, 13, 4, 0⟩ : Rw) c n t) : wayR (⟨65528, 72, 13, 4, 0⟩ : Rw) c t k.A k.B ∈ waysL k := by
  have hr := rel_of H.cb H.row
  have hA : k.A = onReg (c % 8) := Eq.mp (if_neg (by decide)) H.A
  have hB : k.B = onZ := Eq.mp (if_neg (by decide)) H.B
  have hop := H.op
  have hcc := H.cc
  have hrep := H.rep
  have hcb := H.cb
  have hn := H.nb
  have hne := H.ne
  have ht0 := (H.T (by decide)).1
  subst ht0
  clear H
  obtain ⟨op, cc, A, B, rep, l⟩ := k
  dsimp only at hA hB hop hcc hrep hne ⊢
  have hc : c - c % 8 = 72 := by simpa [rel] using hr
  clear hr
  subst hA
  subst hB
  obtain rfl : op = 13 := hop.symm.trans (if_pos (by decide))
  rw [wl_13]
  have e : wayR (⟨65528, 72, 13, 4, 0⟩ : Rw) c [] (onReg (c % 8)) onZ = [c] := by simp [wayR, opB, onReg, onZ, code1 (show c < 256 by omega)]
  rw [e]
  exact List.mem_append_left _ (by rw [if_pos (show (onReg (c % 8)).k = 1 from rfl)]; exact List.mem_singleton.2 (show [c] = [72 + c % 8] from congrArg (fun z => [z]) (by omega)))
theorem mw_5 {k : In} {c n : Int} {t : List Int} (H : ByRow k (⟨65528, 80, 28, 4, 0⟩ : Rw) c n t) : wayR (⟨65528, 80, 28, 4, 0⟩ : Rw) c t k.A k.B ∈ waysL k := by
  have hr := rel_of H.cb H.row
  have hA : k.A = onReg (c % 8) := Eq.mp (if_neg (by decide)) H.A
  have hB : k.B = onZ := Eq.mp (if_neg (by decide)) H.B
  have hop := H.op
  have hcc := H.cc
  have hrep := H.rep
  have hcb := H.cb
  have hn := H.nb
  have hne := H.ne
  have ht0 := (H.T (by decide)).1
  subst ht0
  clear H
  obtain ⟨op, cc, A, B, rep, l⟩ := k
  dsimp only at hA hB hop hcc hrep hne ⊢
  have hc : c - c % 8 = 80 := by simpa [rel] using hr
  clear hr
  subst hA
  subst hB
  obtain rfl : op = 28 := hop.symm.trans (if_pos (by decide))
  rw [wl_28]
  have e : wayR (⟨65528, 80, 28, 4, 0⟩ : Rw) c [] (onReg (c % 8)) onZ = [c] := by simp [wayR, opB, onReg, onZ, code1 (show c < 256 by omega)]
  rw [e]
  rw [if_neg (show ¬ (onReg (c % 8)).k = 2 by simp [onReg])]; exact List.mem_append_left _ (by rw [if_pos (show (onReg (c % 8)).k = 1 from rfl)]; exact List.mem_singleton.2 (show [c] = [80 + c % 8] from congrArg (fun z => [z]) (by omega)))
theorem mw_6 {k : In} {c n : Int} {t : List Int} (H : ByRow k (⟨65528, 88, 29, 4, 0⟩ : Rw) c n t) : wayR (⟨65528, 88, 29, 4, 0⟩ : Rw) c t k.A k.B ∈ waysL k := by
  have hr := rel_of H.cb H.row
  have hA : k.A = onReg (c % 8) := Eq.mp (if_neg (by decide)) H.A
  have hB : k.B = onZ := Eq.mp (if_neg (by decide)) H.B
  have hop := H.op
  have hcc := H.cc
  have hrep := H.rep
  have hcb := H.cb
  have hn := H.nb
  have hne := H.ne
  have ht0 := (H.T (by decide)).1
  subst ht0
  clear H
  obtain ⟨op, cc, A, B, rep, l⟩ := k
  dsimp only at hA hB hop hcc hrep hne ⊢
  have hc : c - c % 8 = 88 := by simpa [rel] using hr
  clear hr
  subst hA
  subst hB
  obtain rfl : op = 29 := hop.symm.trans (if_pos (by decide))
  rw [wl_29]
  have e : wayR (⟨65528, 88, 29, 4, 0⟩ : Rw) c [] (onReg (c % 8)) onZ = [c] := by simp [wayR, opB, onReg, onZ, code1 (show c < 256 by omega)]
  rw [e]
  exact List.mem_singleton.2 (show [c] = [88 + c % 8] from congrArg (fun z => [z]) (by omega))
theorem mw_7 {k : In} {c n : Int} {t : List Int} (H : ByRow k (⟨65535, 104, 28, 9, 0⟩ : Rw) c n t) : wayR (⟨65535, 104, 28, 9, 0⟩ : Rw) c t k.A k.B ∈ waysL k := by
  have hr := rel_of H.cb H.row
  have hA : k.A = onImm k.A.m ∧ 0 ≤ k.A.m ∧ k.A.m ≤ 4294967295 := Eq.mp (if_neg (by decide)) H.A
  have hB : k.B = onZ := Eq.mp (if_neg (by decide)) H.B
  have hop := H.op
  have hcc := H.cc
  have hrep := H.rep
  have hcb := H.cb
  have hn := H.nb
  have hne := H.ne
  have ht0 := (H.T (by decide)).1
  subst ht0
  clear H
  obtain ⟨op, cc, A, B, rep, l⟩ := k
  dsimp only at hA hB hop hcc hrep hne ⊢
  have hc : c = 104 := by simpa [rel] using hr
  clear hr
  subst hc
  obtain ⟨hA1, hA2⟩ := hA
  obtain ⟨m, rfl⟩ : ∃ m, A = onImm m := ⟨_, hA1⟩
  subst hB
  obtain rfl : op = 28 := hop.symm.trans (if_pos (by decide))
  rw [wl_28]
  rw [if_pos (show (onImm m).k = 2 from rfl)]; exact List.mem_append_right _ (List.mem_singleton.2 (by simp [wayR, opB, codeB, onImm, onReg, onZ]))
theorem mw_8 {k : In} {c n : Int} {t : List Int} (H : ByRow k (⟨65535, 106, 28, 8, 0⟩ : Rw) c n t) : wayR (⟨65535, 106, 28, 8, 0⟩ : Rw) c t k.A k.B ∈ waysL k := by
  have hr := rel_of H.cb H.row
  have hA : k.A = onImm k.A.m ∧ fitI k.A.m = true ∧ 0 ≤ k.A.m ∧ k.A.m ≤ 4294967295 := Eq.mp (if_neg (by decide)) H.A
  have hB : k.B = onZ := Eq.mp (if_neg (by decide)) H.B
  have hop := H.op
  have hcc := H.cc
  have hrep := H.rep
  have hcb := H.cb
  have hn := H.nb
  have hne := H.ne
  have ht0 := (H.T (by decide)).1
  subst ht0
  clear H
  obtain ⟨op, cc, A, B, rep, l⟩ := k
  dsimp only at hA hB hop hcc hrep hne ⊢
  have hc : c = 106 := by simpa [rel] using hr
  clear hr
  subst hc
  obtain ⟨hA1, hA2⟩ := hA
  obtain ⟨m, rfl⟩ : ∃ m, A = onImm m := ⟨_, hA1⟩
  have hf : fitI m = true := hA2.1
  subst hB
  obtain rfl : op = 28 := hop.symm.trans (if_pos (by decide))
  rw [wl_28]
  rw [if_pos (show (onImm m).k = 2 from rfl)]; exact List.mem_append_left _ (by rw [if_pos (show fitI (onImm m).m = true from hf)]; exact List.mem_singleton.2 (by simp [wayR, opB, codeB, onImm, onReg, onZ]))
theorem mw_9 {k : In} {c n : Int} {t : List Int} (H : ByRow k (⟨65520, 112, 33, 8, 0⟩ : Rw) c n t) : wayR (⟨65520, 112, 33, 8, 0⟩ : Rw) c t k.A k.B ∈ waysL k := by
  have hr := rel_of H.cb H.row
  have hA : k.A = onImm k.A.m ∧ fitI k.A.m = true ∧ 0 ≤ k.A.m ∧ k.A.m ≤ 4294967295 := Eq.mp (if_neg (by decide)) H.A
  have hB : k.B = onZ := Eq.mp (if_neg (by decide)) H.B
  have hop := H.op
  have hcc := H.cc
  have hrep := H.rep
  have hcb := H.cb
  have hn := H.nb
  have hne := H.ne
  have ht0 := (H.T (by decide)).1
  subst ht0
  clear H
  obtain ⟨op, cc, A, B, rep, l⟩ := k
  dsimp only at hA hB hop hcc hrep hne ⊢
  have hc : c - c % 16 = 112 := by simpa [rel] using hr
  clear hr
  obtain ⟨hA1, hA2⟩ := hA
  obtain ⟨m, rfl⟩ : ∃ m, A = onImm m := ⟨_, hA1⟩
  have hf : fitI m = true := hA2.1
  subst hB
  obtain rfl : op = 33 := hop.symm.trans (if_pos (by decide))
  have hc2 : cc = c % 16 := hcc.trans (if_pos rfl)
  rw [wl_33]
  have e : wayR (⟨65520, 112, 33, 8, 0⟩ : Rw) c [] (onImm m) onZ = [c, m % 256] := by simp [wayR, opB, onImm, onZ, code1 (show c < 256 by omega)]
  rw [e]
  exact List.mem_append_left _ (by rw [if_pos (show fitI (onImm m).m = true from hf)]; exact List.mem_singleton.2 (show [c, m % 256] = [112 + cc, m % 256] from congrArg (fun z => [z, m % 256]) (by omega)))
theorem mw_10 {k : In} {c n : Int} {t : List Int} (H : ByRow k (⟨65535, 129, 54, 6, 9⟩ : Rw) c n t) : wayR (⟨65535, 129, 54, 6, 9⟩ : Rw) c t k.A k.B ∈ waysL k := by
  have hr := rel_of H.cb H.row
  have hA : RMb k.A ∧ t ∈ modT k.A n := Eq.mp (if_pos rfl) H.A
  have hB : k.B = onImm k.B.m ∧ 0 ≤ k.B.m ∧ k.B.m ≤ 4294967295 := Eq.mp (if_neg (by decide)) H.B
  have hop := H.op
  have hcc := H.cc
  have hrep := H.rep
  have hcb := H.cb
  have hn := H.nb
  have hne := H.ne
  clear H
  obtain ⟨op, cc, A, B, rep, l⟩ := k
  dsimp only at hA hB hop hcc hrep hne ⊢
  have hc : c = 129 := by simpa [rel] using hr
  clear hr
  subst hc
  obtain ⟨hR, ht⟩ := hA
  obtain ⟨hB1, hB2⟩ := hB
  obtain ⟨m, rfl⟩ : ∃ m, B = onImm m := ⟨_, hB1⟩
  rw [op_n (by decide) (by decide) hn] at hop
  rcases nat_of' hn with e | e | e | e | e | e | e | e
  · subst e
    obtain rfl : op = 3 := hop.symm
    rw [wl_3]
    rw [if_pos (show (onImm m).k = 2 from rfl)]; exact List.mem_append_right _ (in_b4 (in_mW ht rfl) (by simp [wayR, opB, codeB, onImm, onReg, onZ]))
  · subst e
    obtain rfl : op = 4 := hop.symm
    rw [wl_4]
    rw [if_pos (show (onImm m).k = 2 from rfl)]; exact List.mem_append_right _ (in_b4 (in_mW ht rfl) (by simp [wayR, opB, codeB, onImm, onReg, onZ]))
  · subst e
    obtain rfl : op = 5 := hop.symm
    rw [wl_5]
    rw [if_pos (show (onImm m).k = 2 from rfl)]; exact List.mem_append_right _ (in_b4 (in_mW ht rfl) (by simp [wayR, opB, codeB, onImm, onReg, onZ]))
  · subst e
    obtain rfl : op = 6 := hop.symm
    rw [wl_6]
    rw [if_pos (show (onImm m).k = 2 from rfl)]; exact List.mem_append_right _ (in_b4 (in_mW ht rfl) (by simp [wayR, opB, codeB, onImm, onReg, onZ]))
  · subst e
    obtain rfl : op = 7 := hop.symm
    rw [wl_7]
    rw [if_pos (show (onImm m).k = 2 from rfl)]; exact List.mem_append_right _ (in_b4 (in_mW ht rfl) (by simp [wayR, opB, codeB, onImm, onReg, onZ]))
  · subst e
    obtain rfl : op = 8 := hop.symm
    rw [wl_8]
    rw [if_pos (show (onImm m).k = 2 from rfl)]; exact List.mem_append_right _ (in_b4 (in_mW ht rfl) (by simp [wayR, opB, codeB, onImm, onReg, onZ]))
  · subst e
    obtain rfl : op = 9 := hop.symm
    rw [wl_9]
    rw [if_pos (show (onImm m).k = 2 from rfl)]; exact List.mem_append_right _ (in_b4 (in_mW ht rfl) (by simp [wayR, opB, codeB, onImm, onReg, onZ]))
  · subst e
    obtain rfl : op = 10 := hop.symm
    rw [wl_10]
    rw [if_pos (show (onImm m).k = 2 from rfl)]; exact List.mem_append_right _ (in_b4 (in_mW ht rfl) (by simp [wayR, opB, codeB, onImm, onReg, onZ]))
theorem mw_11 {k : In} {c n : Int} {t : List Int} (H : ByRow k (⟨65535, 131, 54, 6, 8⟩ : Rw) c n t) : wayR (⟨65535, 131, 54, 6, 8⟩ : Rw) c t k.A k.B ∈ waysL k := by
  have hr := rel_of H.cb H.row
  have hA : RMb k.A ∧ t ∈ modT k.A n := Eq.mp (if_pos rfl) H.A
  have hB : k.B = onImm k.B.m ∧ fitI k.B.m = true ∧ 0 ≤ k.B.m ∧ k.B.m ≤ 4294967295 := Eq.mp (if_neg (by decide)) H.B
  have hop := H.op
  have hcc := H.cc
  have hrep := H.rep
  have hcb := H.cb
  have hn := H.nb
  have hne := H.ne
  clear H
  obtain ⟨op, cc, A, B, rep, l⟩ := k
  dsimp only at hA hB hop hcc hrep hne ⊢
  have hc : c = 131 := by simpa [rel] using hr
  clear hr
  subst hc
  obtain ⟨hR, ht⟩ := hA
  obtain ⟨hB1, hB2⟩ := hB
  obtain ⟨m, rfl⟩ : ∃ m, B = onImm m := ⟨_, hB1⟩
  have hf : fitI m = true := hB2.1
  rw [op_n (by decide) (by decide) hn] at hop
  rcases nat_of' hn with e | e | e | e | e | e | e | e
  · subst e
    obtain rfl : op = 3 := hop.symm
    rw [wl_3]
    rw [if_pos (show (onImm m).k = 2 from rfl)]; exact List.mem_append_left _ (List.mem_append_right _ (by rw [if_pos (show fitI (onImm m).m = true from hf)]; exact in_b1 (in_mW ht rfl) (by simp [wayR, opB, codeB, onImm, onReg, onZ])))
  · subst e
    obtain rfl : op = 4 := hop.symm
    rw [wl_4]
    rw [if_pos (show (onImm m).k = 2 from rfl)]; exact List.mem_append_left _ (List.mem_append_right _ (by rw [if_pos (show fitI (onImm m).m = true from hf)]; exact in_b1 (in_mW ht rfl) (by simp [wayR, opB, codeB, onImm, onReg, onZ])))
  · subst e
    obtain rfl : op = 5 := hop.symm
    rw [wl_5]
    rw [if_pos (show (onImm m).k = 2 from rfl)]; exact List.mem_append_left _ (List.mem_append_right _ (by rw [if_pos (show fitI (onImm m).m = true from hf)]; exact in_b1 (in_mW ht rfl) (by simp [wayR, opB, codeB, onImm, onReg, onZ])))
  · subst e
    obtain rfl : op = 6 := hop.symm
    rw [wl_6]
    rw [if_pos (show (onImm m).k = 2 from rfl)]; exact List.mem_append_left _ (List.mem_append_right _ (by rw [if_pos (show fitI (onImm m).m = true from hf)]; exact in_b1 (in_mW ht rfl) (by simp [wayR, opB, codeB, onImm, onReg, onZ])))
  · subst e
    obtain rfl : op = 7 := hop.symm
    rw [wl_7]
    rw [if_pos (show (onImm m).k = 2 from rfl)]; exact List.mem_append_left _ (List.mem_append_right _ (by rw [if_pos (show fitI (onImm m).m = true from hf)]; exact in_b1 (in_mW ht rfl) (by simp [wayR, opB, codeB, onImm, onReg, onZ])))
  · subst e
    obtain rfl : op = 8 := hop.symm
    rw [wl_8]
    rw [if_pos (show (onImm m).k = 2 from rfl)]; exact List.mem_append_left _ (List.mem_append_right _ (by rw [if_pos (show fitI (onImm m).m = true from hf)]; exact in_b1 (in_mW ht rfl) (by simp [wayR, opB, codeB, onImm, onReg, onZ])))
  · subst e
    obtain rfl : op = 9 := hop.symm
    rw [wl_9]
    rw [if_pos (show (onImm m).k = 2 from rfl)]; exact List.mem_append_left _ (List.mem_append_right _ (by rw [if_pos (show fitI (onImm m).m = true from hf)]; exact in_b1 (in_mW ht rfl) (by simp [wayR, opB, codeB, onImm, onReg, onZ])))
  · subst e
    obtain rfl : op = 10 := hop.symm
    rw [wl_10]
    rw [if_pos (show (onImm m).k = 2 from rfl)]; exact List.mem_append_left _ (List.mem_append_right _ (by rw [if_pos (show fitI (onImm m).m = true from hf)]; exact in_b1 (in_mW ht rfl) (by simp [wayR, opB, codeB, onImm, onReg, onZ])))
theorem mw_12 {k : In} {c n : Int} {t : List Int} (H : ByRow k (⟨65535, 133, 11, 6, 5⟩ : Rw) c n t) : wayR (⟨65535, 133, 11, 6, 5⟩ : Rw) c t k.A k.B ∈ waysL k := by
  have hr := rel_of H.cb H.row
  have hA : RMb k.A ∧ t ∈ modT k.A n := Eq.mp (if_pos rfl) H.A
  have hB : k.B = onReg n := Eq.mp (if_neg (by decide)) H.B
  have hop := H.op
  have hcc := H.cc
  have hrep := H.rep
  have hcb := H.cb
  have hn := H.nb
  have hne := H.ne
  clear H
  obtain ⟨op, cc, A, B, rep, l⟩ := k
  dsimp only at hA hB hop hcc hrep hne ⊢
  have hc : c = 133 := by simpa [rel] using hr
  clear hr
  subst hc
  obtain ⟨hR, ht⟩ := hA
  subst hB
  obtain rfl : op = 11 := hop.symm.trans (if_pos (by decide))
  rw [wl_11]
  rw [if_pos (show (onReg n).k = 1 from rfl)]; exact in_mW ht (by simp [wayR, opB, codeB, onImm, onReg, onZ])
theorem mw_13 {k : In} {c n : Int} {t : List Int} (H : ByRow k (⟨65535, 135, 27, 6, 5⟩ : Rw) c n t) : wayR (⟨65535, 135, 27, 6, 5⟩ : Rw) c t k.A k.B ∈ waysL k := by
  have hr := rel_of H.cb H.row
  have hA : RMb k.A ∧ t ∈ modT k.A n := Eq.mp (if_pos rfl) H.A
  have hB : k.B = onReg n := Eq.mp (if_neg (by decide)) H.B
  have hop := H.op
  have hcc := H.cc
  have hrep := H.rep
  have hcb := H.cb
  have hn := H.nb
  have hne := H.ne
  clear H
  obtain ⟨op, cc, A, B, rep, l⟩ := k
  dsimp only at hA hB hop hcc hrep hne ⊢
  have hc : c = 135 := by simpa [rel] using hr
  clear hr
  subst hc
  obtain ⟨hR, ht⟩ := hA
  subst hB
  obtain rfl : op = 27 := hop.symm.trans (if_pos (by decide))
  rw [wl_27]
  exact in_mW ht (by simp [wayR, opB, codeB, onImm, onReg, onZ])
theorem mw_14 {k : In} {c n : Int} {t : List Int} (H : ByRow k (⟨65535, 136, 2, 6, 5⟩ : Rw) c n t) : wayR (⟨65535, 136, 2, 6, 5⟩ : Rw) c t k.A k.B ∈ waysL k := by
  have hr := rel_of H.cb H.row
  have hA : RMb k.A ∧ t ∈ modT k.A n := Eq.mp (if_pos rfl) H.A
  have hB : k.B = onReg n := Eq.mp (if_neg (by decide)) H.B
  have hop := H.op
  have hcc := H.cc
  have hrep := H.rep
  have hcb := H.cb
  have hn := H.nb
  have hne := H.ne
  clear H
  obtain ⟨op, cc, A, B, rep, l⟩ := k
  dsimp only at hA hB hop hcc hrep hne ⊢
  have hc : c = 136 := by simpa [rel] using hr
  clear hr
  subst hc
  obtain ⟨hR, ht⟩ := hA
  subst hB
  obtain rfl : op = 2 := hop.symm.trans (if_pos (by decide))
  rw [wl_2]
  rw [if_neg (show ¬ (onReg n).k = 2 by simp [onReg])]; exact List.mem_append_left _ (by rw [if_pos (show (onReg n).k = 1 from rfl)]; exact in_mW ht (by simp [wayR, opB, codeB, onImm, onReg, onZ]))
theorem mw_15 {k : In} {c n : Int} {t : List Int} (H : ByRow k (⟨65535, 137, 1, 6, 5⟩ : Rw) c n t) : wayR (⟨65535, 137, 1, 6, 5⟩ : Rw) c t k.A k.B ∈ waysL k := by
  have hr := rel_of H.cb H.row
  have hA : RMb k.A ∧ t ∈ modT k.A n := Eq.mp (if_pos rfl) H.A
  have hB : k.B = onReg n := Eq.mp (if_neg (by decide)) H.B
  have hop := H.op
  have hcc := H.cc
  have hrep := H.rep
  have hcb := H.cb
  have hn := H.nb
  have hne := H.ne
  clear H
  obtain ⟨op, cc, A, B, rep, l⟩ := k
  dsimp only at hA hB hop hcc hrep hne ⊢
  have hc : c = 137 := by simpa [rel] using hr
  clear hr
  subst hc
  obtain ⟨hR, ht⟩ := hA
  subst hB
  obtain rfl : op = 1 := hop.symm.trans (if_pos (by decide))
  rw [wl_1]
  rw [if_neg (show ¬ (onReg n).k = 2 by simp [onReg])]; exact List.mem_append_left _ (by rw [if_pos (show (onReg n).k = 1 from rfl)]; exact in_mW ht (by simp [wayR, opB, codeB, onImm, onReg, onZ]))
theorem mw_16 {k : In} {c n : Int} {t : List Int} (H : ByRow k (⟨65535, 138, 2, 5, 6⟩ : Rw) c n t) : wayR (⟨65535, 138, 2, 5, 6⟩ : Rw) c t k.A k.B ∈ waysL k := by
  have hr := rel_of H.cb H.row
  have hA : k.A = onReg n := Eq.mp (if_neg (by decide)) H.A
  have hB : RMb k.B ∧ t ∈ modT k.B n := Eq.mp (if_pos rfl) H.B
  have hop := H.op
  have hcc := H.cc
  have hrep := H.rep
  have hcb := H.cb
  have hn := H.nb
  have hne := H.ne
  clear H
  obtain ⟨op, cc, A, B, rep, l⟩ := k
  dsimp only at hA hB hop hcc hrep hne ⊢
  have hc : c = 138 := by simpa [rel] using hr
  clear hr
  subst hc
  subst hA
  obtain ⟨hR, ht⟩ := hB
  obtain rfl : op = 2 := hop.symm.trans (if_pos (by decide))
  rw [wl_2]
  rw [if_neg (rm_k hR)]; exact List.mem_append_right _ (by rw [if_pos (show (onReg n).k = 1 from rfl)]; exact in_mW ht (by simp [wayR, opB, codeB, onImm, onReg, onZ]))
theorem mw_17 {k : In} {c n : Int} {t : List Int} (H : ByRow k (⟨65535, 139, 1, 5, 6⟩ : Rw) c n t) : wayR (⟨65535, 139, 1, 5, 6⟩ : Rw) c t k.A k.B ∈ waysL k := by
  have hr := rel_of H.cb H.row
  have hA : k.A = onReg n := Eq.mp (if_neg (by decide)) H.A
  have hB : RMb k.B ∧ t ∈ modT k.B n := Eq.mp (if_pos rfl) H.B
  have hop := H.op
  have hcc := H.cc
  have hrep := H.rep
  have hcb := H.cb
  have hn := H.nb
  have hne := H.ne
  clear H
  obtain ⟨op, cc, A, B, rep, l⟩ := k
  dsimp only at hA hB hop hcc hrep hne ⊢
  have hc : c = 139 := by simpa [rel] using hr
  clear hr
  subst hc
  subst hA
  obtain ⟨hR, ht⟩ := hB
  obtain rfl : op = 1 := hop.symm.trans (if_pos (by decide))
  rw [wl_1]
  rw [if_neg (rm_k hR)]; exact List.mem_append_right _ (by rw [if_pos (show (onReg n).k = 1 from rfl)]; exact in_mW ht (by simp [wayR, opB, codeB, onImm, onReg, onZ]))
theorem mw_18 {k : In} {c n : Int} {t : List Int} (H : ByRow k (⟨65535, 141, 26, 5, 6⟩ : Rw) c n t) : wayR (⟨65535, 141, 26, 5, 6⟩ : Rw) c t k.A k.B ∈ waysL k := by
  have hr := rel_of H.cb H.row
  have hA : k.A = onReg n := Eq.mp (if_neg (by decide)) H.A
  have hB : RMb k.B ∧ t ∈ modT k.B n := Eq.mp (if_pos rfl) H.B
  have hop := H.op
  have hcc := H.cc
  have hrep := H.rep
  have hcb := H.cb
  have hn := H.nb
  have hne := H.ne
  clear H
  obtain ⟨op, cc, A, B, rep, l⟩ := k
  dsimp only at hA hB hop hcc hrep hne ⊢
  have hc : c = 141 := by simpa [rel] using hr
  clear hr
  subst hc
  subst hA
  obtain ⟨hR, ht⟩ := hB
  obtain rfl : op = 26 := hop.symm.trans (if_pos (by decide))
  rw [wl_26]
  exact in_mW ht (by simp [wayR, opB, codeB, onImm, onReg, onZ])
theorem mw_19 {k : In} {c n : Int} {t : List Int} (H : ByRow k (⟨65535, 141, -1, 0, 0⟩ : Rw) c n t) : wayR (⟨65535, 141, -1, 0, 0⟩ : Rw) c t k.A k.B ∈ waysL k := by
  have hr := rel_of H.cb H.row
  have hA : k.A = onZ := Eq.mp (if_neg (by decide)) H.A
  have hB : k.B = onZ := Eq.mp (if_neg (by decide)) H.B
  have hop := H.op
  have hcc := H.cc
  have hrep := H.rep
  have hcb := H.cb
  have hn := H.nb
  have hne := H.ne
  have ht0 := (H.T (by decide)).1
  subst ht0
  clear H
  obtain ⟨op, cc, A, B, rep, l⟩ := k
  dsimp only at hA hB hop hcc hrep hne ⊢
  have hc : c = 141 := by simpa [rel] using hr
  clear hr
  subst hc
  subst hA
  subst hB
  exact absurd (hop.symm.trans (if_pos (by decide))) hne.2
theorem mw_20 {k : In} {c n : Int} {t : List Int} (H : ByRow k (⟨65535, 144, 44, 0, 0⟩ : Rw) c n t) : wayR (⟨65535, 144, 44, 0, 0⟩ : Rw) c t k.A k.B ∈ waysL k := by
  have hr := rel_of H.cb H.row
  have hA : k.A = onZ := Eq.mp (if_neg (by decide)) H.A
  have hB : k.B = onZ := Eq.mp (if_neg (by decide)) H.B
  have hop := H.op
  have hcc := H.cc
  have hrep := H.rep
  have hcb := H.cb
  have hn := H.nb
  have hne := H.ne
  have ht0 := (H.T (by decide)).1
  subst ht0
  clear H
  obtain ⟨op, cc, A, B, rep, l⟩ := k
  dsimp only at hA hB hop hcc hrep hne ⊢
  have hc : c = 144 := by simpa [rel] using hr
  clear hr
  subst hc
  subst hA
  subst hB
  obtain rfl : op = 44 := hop.symm.trans (if_pos (by decide))
  rw [wl_44]
  exact List.mem_singleton.2 (by simp [wayR, opB, codeB, onImm, onReg, onZ])
theorem mw_21 {k : In} {c n : Int} {t : List Int} (H : ByRow k (⟨65535, 153, 38, 0, 0⟩ : Rw) c n t) : wayR (⟨65535, 153, 38, 0, 0⟩ : Rw) c t k.A k.B ∈ waysL k := by
  have hr := rel_of H.cb H.row
  have hA : k.A = onZ := Eq.mp (if_neg (by decide)) H.A
  have hB : k.B = onZ := Eq.mp (if_neg (by decide)) H.B
  have hop := H.op
  have hcc := H.cc
  have hrep := H.rep
  have hcb := H.cb
  have hn := H.nb
  have hne := H.ne
  have ht0 := (H.T (by decide)).1
  subst ht0
  clear H
  obtain ⟨op, cc, A, B, rep, l⟩ := k
  dsimp only at hA hB hop hcc hrep hne ⊢
  have hc : c = 153 := by simpa [rel] using hr
  clear hr
  subst hc
  subst hA
  subst hB
  obtain rfl : op = 38 := hop.symm.trans (if_pos (by decide))
  rw [wl_38]
  exact List.mem_singleton.2 (by simp [wayR, opB, codeB, onImm, onReg, onZ])
theorem mw_22 {k : In} {c n : Int} {t : List Int} (H : ByRow k (⟨65535, 165, 41, 0, 0⟩ : Rw) c n t) : wayR (⟨65535, 165, 41, 0, 0⟩ : Rw) c t k.A k.B ∈ waysL k := by
  have hr := rel_of H.cb H.row
  have hA : k.A = onZ := Eq.mp (if_neg (by decide)) H.A
  have hB : k.B = onZ := Eq.mp (if_neg (by decide)) H.B
  have hop := H.op
  have hcc := H.cc
  have hrep := H.rep
  have hcb := H.cb
  have hn := H.nb
  have hne := H.ne
  have ht0 := (H.T (by decide)).1
  subst ht0
  clear H
  obtain ⟨op, cc, A, B, rep, l⟩ := k
  dsimp only at hA hB hop hcc hrep hne ⊢
  have hc : c = 165 := by simpa [rel] using hr
  clear hr
  subst hc
  subst hA
  subst hB
  obtain rfl : op = 41 := hop.symm.trans (if_pos (by decide))
  obtain rfl : rep = false := hrep.trans (by decide)
  rw [wl_41, if_neg Bool.false_ne_true]
  exact List.mem_singleton.2 (by simp [wayR, opB, codeB, onImm, onReg, onZ])
theorem mw_23 {k : In} {c n : Int} {t : List Int} (H : ByRow k (⟨65535, 169, 11, 1, 9⟩ : Rw) c n t) : wayR (⟨65535, 169, 11, 1, 9⟩ : Rw) c t k.A k.B ∈ waysL k := by
  have hr := rel_of H.cb H.row
  have hA : k.A = onReg 0 := Eq.mp (if_neg (by decide)) H.A
  have hB : k.B = onImm k.B.m ∧ 0 ≤ k.B.m ∧ k.B.m ≤ 4294967295 := Eq.mp (if_neg (by decide)) H.B
  have hop := H.op
  have hcc := H.cc
  have hrep := H.rep
  have hcb := H.cb
  have hn := H.nb
  have hne := H.ne
  have ht0 := (H.T (by decide)).1
  subst ht0
  clear H
  obtain ⟨op, cc, A, B, rep, l⟩ := k
  dsimp only at hA hB hop hcc hrep hne ⊢
  have hc : c = 169 := by simpa [rel] using hr
  clear hr
  subst hc
  subst hA
  obtain ⟨hB1, hB2⟩ := hB
  obtain ⟨m, rfl⟩ : ∃ m, B = onImm m := ⟨_, hB1⟩
  obtain rfl : op = 11 := hop.symm.trans (if_pos (by decide))
  rw [wl_11]
  rw [if_neg (show ¬ (onImm m).k = 1 by simp [onImm])]; exact List.mem_append_left _ (by rw [if_pos (show isR0 (onReg 0) = true from rfl)]; exact List.mem_singleton.2 (by simp [wayR, opB, codeB, onImm, onReg, onZ]))
theorem mw_24 {k : In} {c n : Int} {t : List Int} (H : ByRow k (⟨65535, 171, 42, 0, 0⟩ : Rw) c n t) : wayR (⟨65535, 171, 42, 0, 0⟩ : Rw) c t k.A k.B ∈ waysL k := by
  have hr := rel_of H.cb H.row
  have hA : k.A = onZ := Eq.mp (if_neg (by decide)) H.A
  have hB : k.B = onZ := Eq.mp (if_neg (by decide)) H.B
  have hop := H.op
  have hcc := H.cc
  have hrep := H.rep
  have hcb := H.cb
  have hn := H.nb
  have hne := H.ne
  have ht0 := (H.T (by decide)).1
  subst ht0
  clear H
  obtain ⟨op, cc, A, B, rep, l⟩ := k
  dsimp only at hA hB hop hcc hrep hne ⊢
  have hc : c = 171 := by simpa [rel] using hr
  clear hr
  subst hc
  subst hA
  subst hB
  obtain rfl : op = 42 := hop.symm.trans (if_pos (by decide))
  obtain rfl : rep = false := hrep.trans (by decide)
  rw [wl_42, if_neg Bool.false_ne_true]
  exact List.mem_singleton.2 (by simp [wayR, opB, codeB, onImm, onReg, onZ])
theorem mw_25 {k : In} {c n : Int} {t : List Int} (H : ByRow k (⟨65528, 176, 2, 4, 7⟩ : Rw) c n t) : wayR (⟨65528, 176, 2, 4, 7⟩ : Rw) c t k.A k.B ∈ waysL k := by
  have hr := rel_of H.cb H.row
  have hA : k.A = onReg (c % 8) := Eq.mp (if_neg (by decide)) H.A
  have hB : k.B = onImm k.B.m ∧ 0 ≤ k.B.m ∧ k.B.m ≤ 255 := Eq.mp (if_neg (by decide)) H.B
  have hop := H.op
  have hcc := H.cc
  have hrep := H.rep
  have hcb := H.cb
  have hn := H.nb
  have hne := H.ne
  have ht0 := (H.T (by decide)).1
  subst ht0
  clear H
  obtain ⟨op, cc, A, B, rep, l⟩ := k
  dsimp only at hA hB hop hcc hrep hne ⊢
  have hc : c - c % 8 = 176 := by simpa [rel] using hr
  clear hr
  subst hA
  obtain ⟨hB1, hB2⟩ := hB
  obtain ⟨m, rfl⟩ : ∃ m, B = onImm m := ⟨_, hB1⟩
  have hm : 0 ≤ m ∧ m ≤ 255 := hB2
  have hmm : m % 256 = m := by omega
  obtain rfl : op = 2 := hop.symm.trans (if_pos (by decide))
  rw [wl_2, if_pos (show (onImm m).k = 2 from rfl)]
  have e : wayR (⟨65528, 176, 2, 4, 7⟩ : Rw) c [] (onReg (c % 8)) (onImm m) = [c] ++ [m % 256] := by simp [wayR, opB, onReg, onImm, code1 (show c < 256 by omega), hmm]
  rw [e]
  exact List.mem_append_left _ (by rw [if_pos (show (onReg (c % 8)).k = 1 from rfl)]; exact List.mem_singleton.2 (show [c] ++ [m % 256] = [176 + c % 8, m % 256] from congrArg (fun z => [z, m % 256]) (by omega)))
theorem mw_26 {k : In} {c n : Int} {t : List Int} (H : ByRow k (⟨65528, 184, 1, 4, 9⟩ : Rw) c n t) : wayR (⟨65528, 184, 1, 4, 9⟩ : Rw) c t k.A k.B ∈ waysL k := by
  have hr := rel_of H.cb H.row
  have hA : k.A = onReg (c % 8) := Eq.mp (if_neg (by decide)) H.A
  have hB : k.B = onImm k.B.m ∧ 0 ≤ k.B.m ∧ k.B.m ≤ 4294967295 := Eq.mp (if_neg (by decide)) H.B
  have hop := H.op
  have hcc := H.cc
  have hrep := H.rep
  have hcb := H.cb
  have hn := H.nb
  have hne := H.ne
  have ht0 := (H.T (by decide)).1
  subst ht0
  clear H
  obtain ⟨op, cc, A, B, rep, l⟩ := k
  dsimp only at hA hB hop hcc hrep hne ⊢
  have hc : c - c % 8 = 184 := by simpa [rel] using hr
  clear hr
  subst hA
  obtain ⟨hB1, hB2⟩ := hB
  obtain ⟨m, rfl⟩ : ∃ m, B = onImm m := ⟨_, hB1⟩
  obtain rfl : op = 1 := hop.symm.trans (if_pos (by decide))
  rw [wl_1, if_pos (show (onImm m).k = 2 from rfl)]
  have e : wayR (⟨65528, 184, 1, 4, 9⟩ : Rw) c [] (onReg (c % 8)) (onImm m) = [c] ++ wB m := by simp [wayR, opB, onReg, onImm, code1 (show c < 256 by omega)]
  rw [e]
  exact List.mem_append_left _ (by rw [if_pos (show (onReg (c % 8)).k = 1 from rfl)]; exact List.mem_singleton.2 (show [c] ++ wB m = [184 + c % 8] ++ wB m from congrArg (fun z => [z] ++ wB m) (by omega)))
theorem mw_27 {k : In} {c n : Int} {t : List Int} (H : ByRow k (⟨65535, 193, 55, 6, 7⟩ : Rw) c n t) : wayR (⟨65535, 193, 55, 6, 7⟩ : Rw) c t k.A k.B ∈ waysL k := by
  have hr := rel_of H.cb H.row
  have hA : RMb k.A ∧ t ∈ modT k.A n := Eq.mp (if_pos rfl) H.A
  have hB : k.B = onImm k.B.m ∧ 0 ≤ k.B.m ∧ k.B.m ≤ 255 := Eq.mp (if_neg (by decide)) H.B
  have hop := H.op
  have hcc := H.cc
  have hrep := H.rep
  have hcb := H.cb
  have hn := H.nb
  have hne := H.ne
  clear H
  obtain ⟨op, cc, A, B, rep, l⟩ := k
  dsimp only at hA hB hop hcc hrep hne ⊢
  have hc : c = 193 := by simpa [rel] using hr
  clear hr
  subst hc
  obtain ⟨hR, ht⟩ := hA
  obtain ⟨hB1, hB2⟩ := hB
  obtain ⟨m, rfl⟩ : ∃ m, B = onImm m := ⟨_, hB1⟩
  have hm : 0 ≤ m ∧ m ≤ 255 := hB2
  have hmm : m % 256 = m := by omega
  rw [op_n (by decide) (by decide) hn] at hop
  rcases nat_of' hn with e | e | e | e | e | e | e | e
  · subst e
    obtain rfl : op = 21 := hop.symm
    rw [wl_21]
    rw [if_neg (show ¬ (onImm m).k = 1 by simp [onImm])]; exact List.mem_append_right _ (in_b1 (in_mW ht rfl) (by simp [wayR, opB, codeB, onImm, onReg, onZ, hmm]))
  · subst e
    obtain rfl : op = 22 := hop.symm
    rw [wl_22]
    rw [if_neg (show ¬ (onImm m).k = 1 by simp [onImm])]; exact List.mem_append_right _ (in_b1 (in_mW ht rfl) (by simp [wayR, opB, codeB, onImm, onReg, onZ, hmm]))
  · subst e; exact absurd hop.symm hne.1
  · subst e; exact absurd hop.symm hne.1
  · subst e
    obtain rfl : op = 23 := hop.symm
    rw [wl_23]
    rw [if_neg (show ¬ (onImm m).k = 1 by simp [onImm])]; exact List.mem_append_right _ (in_b1 (in_mW ht rfl) (by simp [wayR, opB, codeB, onImm, onReg, onZ, hmm]))
  · subst e
    obtain rfl : op = 24 := hop.symm
    rw [wl_24]
    rw [if_neg (show ¬ (onImm m).k = 1 by simp [onImm])]; exact List.mem_append_right _ (in_b1 (in_mW ht rfl) (by simp [wayR, opB, codeB, onImm, onReg, onZ, hmm]))
  · subst e; exact absurd hop.symm hne.1
  · subst e
    obtain rfl : op = 25 := hop.symm
    rw [wl_25]
    rw [if_neg (show ¬ (onImm m).k = 1 by simp [onImm])]; exact List.mem_append_right _ (in_b1 (in_mW ht rfl) (by simp [wayR, opB, codeB, onImm, onReg, onZ, hmm]))
theorem mw_28 {k : In} {c n : Int} {t : List Int} (H : ByRow k (⟨65535, 195, 31, 0, 0⟩ : Rw) c n t) : wayR (⟨65535, 195, 31, 0, 0⟩ : Rw) c t k.A k.B ∈ waysL k := by
  have hr := rel_of H.cb H.row
  have hA : k.A = onZ := Eq.mp (if_neg (by decide)) H.A
  have hB : k.B = onZ := Eq.mp (if_neg (by decide)) H.B
  have hop := H.op
  have hcc := H.cc
  have hrep := H.rep
  have hcb := H.cb
  have hn := H.nb
  have hne := H.ne
  have ht0 := (H.T (by decide)).1
  subst ht0
  clear H
  obtain ⟨op, cc, A, B, rep, l⟩ := k
  dsimp only at hA hB hop hcc hrep hne ⊢
  have hc : c = 195 := by simpa [rel] using hr
  clear hr
  subst hc
  subst hA
  subst hB
  obtain rfl : op = 31 := hop.symm.trans (if_pos (by decide))
  rw [wl_31]
  exact List.mem_singleton.2 (by simp [wayR, opB, codeB, onImm, onReg, onZ])
theorem mw_29 {k : In} {c n : Int} {t : List Int} (H : ByRow k (⟨65535, 198, 60, 6, 7⟩ : Rw) c n t) : wayR (⟨65535, 198, 60, 6, 7⟩ : Rw) c t k.A k.B ∈ waysL k := by
  have hr := rel_of H.cb H.row
  have hA : RMb k.A ∧ t ∈ modT k.A n := Eq.mp (if_pos rfl) H.A
  have hB : k.B = onImm k.B.m ∧ 0 ≤ k.B.m ∧ k.B.m ≤ 255 := Eq.mp (if_neg (by decide)) H.B
  have hop := H.op
  have hcc := H.cc
  have hrep := H.rep
  have hcb := H.cb
  have hn := H.nb
  have hne := H.ne
  clear H
  obtain ⟨op, cc, A, B, rep, l⟩ := k
  dsimp only at hA hB hop hcc hrep hne ⊢
  have hc : c = 198 := by simpa [rel] using hr
  clear hr
  subst hc
  obtain ⟨hR, ht⟩ := hA
  obtain ⟨hB1, hB2⟩ := hB
  obtain ⟨m, rfl⟩ : ∃ m, B = onImm m := ⟨_, hB1⟩
  have hm : 0 ≤ m ∧ m ≤ 255 := hB2
  have hmm : m % 256 = m := by omega
  rw [op_n (by decide) (by decide) hn] at hop
  rcases nat_of' hn with e | e | e | e | e | e | e | e
  · subst e
    obtain rfl : op = 2 := hop.symm
    rw [wl_2]
    rw [if_pos (show (onImm m).k = 2 from rfl)]; exact List.mem_append_right _ (in_b1 (in_mW ht rfl) (by simp [wayR, opB, codeB, onImm, onReg, onZ, hmm]))
  · subst e; exact absurd hop.symm hne.2
  · subst e; exact absurd hop.symm hne.2
  · subst e; exact absurd hop.symm hne.2
  · subst e; exact absurd hop.symm hne.2
  · subst e; exact absurd hop.symm hne.2
  · subst e; exact absurd hop.symm hne.2
  · subst e; exact absurd hop.symm hne.2
theorem mw_30 {k : In} {c n : Int} {t : List Int} (H : ByRow k (⟨65535, 199, 59, 6, 9⟩ : Rw) c n t) : wayR (⟨65535, 199, 59, 6, 9⟩ : Rw) c t k.A k.B ∈ waysL k := by
  have hr := rel_of H.cb H.row
  have hA : RMb k.A ∧ t ∈ modT k.A n := Eq.mp (if_pos rfl) H.A
  have hB : k.B = onImm k.B.m ∧ 0 ≤ k.B.m ∧ k.B.m ≤ 4294967295 := Eq.mp (if_neg (by decide)) H.B
  have hop := H.op
  have hcc := H.cc
  have hrep := H.rep
  have hcb := H.cb
  have hn := H.nb
  have hne := H.ne
  clear H
  obtain ⟨op, cc, A, B, rep, l⟩ := k
  dsimp only at hA hB hop hcc hrep hne ⊢
  have hc : c = 199 := by simpa [rel] using hr
  clear hr
  subst hc
  obtain ⟨hR, ht⟩ := hA
  obtain ⟨hB1, hB2⟩ := hB
  obtain ⟨m, rfl⟩ : ∃ m, B = onImm m := ⟨_, hB1⟩
  rw [op_n (by decide) (by decide) hn] at hop
  rcases nat_of' hn with e | e | e | e | e | e | e | e
  · subst e
    obtain rfl : op = 1 := hop.symm
    rw [wl_1]
    rw [if_pos (show (onImm m).k = 2 from rfl)]; exact List.mem_append_right _ (in_b4 (in_mW ht rfl) (by simp [wayR, opB, codeB, onImm, onReg, onZ]))
  · subst e; exact absurd hop.symm hne.2
  · subst e; exact absurd hop.symm hne.2
  · subst e; exact absurd hop.symm hne.2
  · subst e; exact absurd hop.symm hne.2
  · subst e; exact absurd hop.symm hne.2
  · subst e; exact absurd hop.symm hne.2
  · subst e; exact absurd hop.symm hne.2
theorem mw_31 {k : In} {c n : Int} {t : List Int} (H : ByRow k (⟨65535, 205, 43, 7, 0⟩ : Rw) c n t) (hi : isB k = true) : wayR (⟨65535, 205, 43, 7, 0⟩ : Rw) c t k.A k.B ∈ waysL k := by
  have hr := rel_of H.cb H.row
  have hA : k.A = onImm k.A.m ∧ 0 ≤ k.A.m ∧ k.A.m ≤ 255 := Eq.mp (if_neg (by decide)) H.A
  have hB : k.B = onZ := Eq.mp (if_neg (by decide)) H.B
  have hop := H.op
  have hcc := H.cc
  have hrep := H.rep
  have hcb := H.cb
  have hn := H.nb
  have hne := H.ne
  have ht0 := (H.T (by decide)).1
  subst ht0
  clear H
  obtain ⟨op, cc, A, B, rep, l⟩ := k
  dsimp only at hA hB hop hcc hrep hne ⊢
  have hc : c = 205 := by simpa [rel] using hr
  clear hr
  subst hc
  obtain ⟨hA1, hA2⟩ := hA
  obtain ⟨m, rfl⟩ : ∃ m, A = onImm m := ⟨_, hA1⟩
  have hm : 0 ≤ m ∧ m ≤ 255 := hA2
  have hmm : m % 256 = m := by omega
  subst hB
  obtain rfl : op = 43 := hop.symm.trans (if_pos (by decide))
  have h128 : m = 128 := by
    by_cases e : m = 128
    · exact e
    · rw [isB_no (op := 43) (SA := [48, 16]) (SB := [1]) (by kernel_rfl) (by rw [cA_imm, if_neg e]; split <;> decide) mem_z] at hi
      cases hi
  subst h128
  rw [wl_43]
  exact List.mem_singleton.2 (by simp [wayR, opB, codeB, onImm, onReg, onZ])
theorem mw_32 {k : In} {c n : Int} {t : List Int} (H : ByRow k (⟨65535, 209, 55, 6, 3⟩ : Rw) c n t) : wayR (⟨65535, 209, 55, 6, 3⟩ : Rw) c t k.A k.B ∈ waysL k := by
  have hr := rel_of H.cb H.row
  have hA : RMb k.A ∧ t ∈ modT k.A n := Eq.mp (if_pos rfl) H.A
  have hB : k.B = onImm 1 := Eq.mp (if_neg (by decide)) H.B
  have hop := H.op
  have hcc := H.cc
  have hrep := H.rep
  have hcb := H.cb
  have hn := H.nb
  have hne := H.ne
  clear H
  obtain ⟨op, cc, A, B, rep, l⟩ := k
  dsimp only at hA hB hop hcc hrep hne ⊢
  have hc : c = 209 := by simpa [rel] using hr
  clear hr
  subst hc
  obtain ⟨hR, ht⟩ := hA
  subst hB
  rw [op_n (by decide) (by decide) hn] at hop
  rcases nat_of' hn with e | e | e | e | e | e | e | e
  · subst e
    obtain rfl : op = 21 := hop.symm
    rw [wl_21]
    rw [if_neg (show ¬ (onImm 1).k = 1 by simp [onImm])]; exact List.mem_append_left _ (by rw [if_pos (show (onImm 1).m = 1 from rfl)]; exact in_mW ht (by simp [wayR, opB, codeB, onImm, onReg, onZ]))
  · subst e
    obtain rfl : op = 22 := hop.symm
    rw [wl_22]
    rw [if_neg (show ¬ (onImm 1).k = 1 by simp [onImm])]; exact List.mem_append_left _ (by rw [if_pos (show (onImm 1).m = 1 from rfl)]; exact in_mW ht (by simp [wayR, opB, codeB, onImm, onReg, onZ]))
  · subst e; exact absurd hop.symm hne.1
  · subst e; exact absurd hop.symm hne.1
  · subst e
    obtain rfl : op = 23 := hop.symm
    rw [wl_23]
    rw [if_neg (show ¬ (onImm 1).k = 1 by simp [onImm])]; exact List.mem_append_left _ (by rw [if_pos (show (onImm 1).m = 1 from rfl)]; exact in_mW ht (by simp [wayR, opB, codeB, onImm, onReg, onZ]))
  · subst e
    obtain rfl : op = 24 := hop.symm
    rw [wl_24]
    rw [if_neg (show ¬ (onImm 1).k = 1 by simp [onImm])]; exact List.mem_append_left _ (by rw [if_pos (show (onImm 1).m = 1 from rfl)]; exact in_mW ht (by simp [wayR, opB, codeB, onImm, onReg, onZ]))
  · subst e; exact absurd hop.symm hne.1
  · subst e
    obtain rfl : op = 25 := hop.symm
    rw [wl_25]
    rw [if_neg (show ¬ (onImm 1).k = 1 by simp [onImm])]; exact List.mem_append_left _ (by rw [if_pos (show (onImm 1).m = 1 from rfl)]; exact in_mW ht (by simp [wayR, opB, codeB, onImm, onReg, onZ]))
theorem mw_33 {k : In} {c n : Int} {t : List Int} (H : ByRow k (⟨65535, 211, 55, 6, 2⟩ : Rw) c n t) : wayR (⟨65535, 211, 55, 6, 2⟩ : Rw) c t k.A k.B ∈ waysL k := by
  have hr := rel_of H.cb H.row
  have hA : RMb k.A ∧ t ∈ modT k.A n := Eq.mp (if_pos rfl) H.A
  have hB : k.B = onReg 1 := Eq.mp (if_neg (by decide)) H.B
  have hop := H.op
  have hcc := H.cc
  have hrep := H.rep
  have hcb := H.cb
  have hn := H.nb
  have hne := H.ne
  clear H
  obtain ⟨op, cc, A, B, rep, l⟩ := k
  dsimp only at hA hB hop hcc hrep hne ⊢
  have hc : c = 211 := by simpa [rel] using hr
  clear hr
  subst hc
  obtain ⟨hR, ht⟩ := hA
  subst hB
  rw [op_n (by decide) (by decide) hn] at hop
  rcases nat_of' hn with e | e | e | e | e | e | e | e
  · subst e
    obtain rfl : op = 21 := hop.symm
    rw [wl_21]
    rw [if_pos (show (onReg 1).k = 1 from rfl)]; exact in_mW ht (by simp [wayR, opB, codeB, onImm, onReg, onZ])
  · subst e
    obtain rfl : op = 22 := hop.symm
    rw [wl_22]
    rw [if_pos (show (onReg 1).k = 1 from rfl)]; exact in_mW ht (by simp [wayR, opB, codeB, onImm, onReg, onZ])
  · subst e; exact absurd hop.symm hne.1
  · subst e; exact absurd hop.symm hne.1
  · subst e
    obtain rfl : op = 23 := hop.symm
    rw [wl_23]
    rw [if_pos (show (onReg 1).k = 1 from rfl)]; exact in_mW ht (by simp [wayR, opB, codeB, onImm, onReg, onZ])
  · subst e
    obtain rfl : op = 24 := hop.symm
    rw [wl_24]
    rw [if_pos (show (onReg 1).k = 1 from rfl)]; exact in_mW ht (by simp [wayR, opB, codeB, onImm, onReg, onZ])
  · subst e; exact absurd hop.symm hne.1
  · subst e
    obtain rfl : op = 25 := hop.symm
    rw [wl_25]
    rw [if_pos (show (onReg 1).k = 1 from rfl)]; exact in_mW ht (by simp [wayR, opB, codeB, onImm, onReg, onZ])
theorem mw_34 {k : In} {c n : Int} {t : List Int} (H : ByRow k (⟨65535, 220, 62, 6, 0⟩ : Rw) c n t) : wayR (⟨65535, 220, 62, 6, 0⟩ : Rw) c t k.A k.B ∈ waysL k := by
  have hr := rel_of H.cb H.row
  have hA : RMb k.A ∧ t ∈ modT k.A n := Eq.mp (if_pos rfl) H.A
  have hB : k.B = onZ := Eq.mp (if_neg (by decide)) H.B
  have hop := H.op
  have hcc := H.cc
  have hrep := H.rep
  have hcb := H.cb
  have hn := H.nb
  have hne := H.ne
  clear H
  obtain ⟨op, cc, A, B, rep, l⟩ := k
  dsimp only at hA hB hop hcc hrep hne ⊢
  have hc : c = 220 := by simpa [rel] using hr
  clear hr
  subst hc
  obtain ⟨hR, ht⟩ := hA
  subst hB
  rw [op_n (by decide) (by decide) hn] at hop
  rcases nat_of' hn with e | e | e | e | e | e | e | e
  · subst e
    obtain rfl : op = 47 := hop.symm
    rw [wl_47]
    exact in_mW ht (by simp [wayR, opB, codeB, onImm, onReg, onZ])
  · subst e
    obtain rfl : op = 48 := hop.symm
    rw [wl_48]
    exact in_mW ht (by simp [wayR, opB, codeB, onImm, onReg, onZ])
  · subst e
    obtain rfl : op = 53 := hop.symm
    rw [wl_53]
    exact in_mW ht (by simp [wayR, opB, codeB, onImm, onReg, onZ])
  · subst e; exact absurd hop.symm hne.1
  · subst e
    obtain rfl : op = 49 := hop.symm
    rw [wl_49]
    exact in_mW ht (by simp [wayR, opB, codeB, onImm, onReg, onZ])
  · subst e; exact absurd hop.symm hne.1
  · subst e
    obtain rfl : op = 50 := hop.symm
    rw [wl_50]
    exact in_mW ht (by simp [wayR, opB, codeB, onImm, onReg, onZ])
  · subst e; exact absurd hop.symm hne.1
theorem mw_35 {k : In} {c n : Int} {t : List Int} (H : ByRow k (⟨65535, 221, 63, 6, 0⟩ : Rw) c n t) : wayR (⟨65535, 221, 63, 6, 0⟩ : Rw) c t k.A k.B ∈ waysL k := by
  have hr := rel_of H.cb H.row
  have hA : RMb k.A ∧ t ∈ modT k.A n := Eq.mp (if_pos rfl) H.A
  have hB : k.B = onZ := Eq.mp (if_neg (by decide)) H.B
  have hop := H.op
  have hcc := H.cc
  have hrep := H.rep
  have hcb := H.cb
  have hn := H.nb
  have hne := H.ne
  clear H
  obtain ⟨op, cc, A, B, rep, l⟩ := k
  dsimp only at hA hB hop hcc hrep hne ⊢
  have hc : c = 221 := by simpa [rel] using hr
  clear hr
  subst hc
  obtain ⟨hR, ht⟩ := hA
  subst hB
  rw [op_n (by decide) (by decide) hn] at hop
  rcases nat_of' hn with e | e | e | e | e | e | e | e
  · subst e
    obtain rfl : op = 45 := hop.symm
    rw [wl_45]
    exact in_mW ht (by simp [wayR, opB, codeB, onImm, onReg, onZ])
  · subst e; exact absurd hop.symm hne.1
  · subst e; exact absurd hop.symm hne.1
  · subst e
    obtain rfl : op = 46 := hop.symm
    rw [wl_46]
    exact in_mW ht (by simp [wayR, opB, codeB, onImm, onReg, onZ])
  · subst e; exact absurd hop.symm hne.1
  · subst e; exact absurd hop.symm hne.1
  · subst e; exact absurd hop.symm hne.1
  · subst e; exact absurd hop.symm hne.1
theorem mw_36 {k : In} {c n : Int} {t : List Int} (H : ByRow k (⟨65535, 232, 30, 9, 0⟩ : Rw) c n t) : wayR (⟨65535, 232, 30, 9, 0⟩ : Rw) c t k.A k.B ∈ waysL k := by
  have hr := rel_of H.cb H.row
  have hA : k.A = onImm k.A.m ∧ 0 ≤ k.A.m ∧ k.A.m ≤ 4294967295 := Eq.mp (if_neg (by decide)) H.A
  have hB : k.B = onZ := Eq.mp (if_neg (by decide)) H.B
  have hop := H.op
  have hcc := H.cc
  have hrep := H.rep
  have hcb := H.cb
  have hn := H.nb
  have hne := H.ne
  have ht0 := (H.T (by decide)).1
  subst ht0
  clear H
  obtain ⟨op, cc, A, B, rep, l⟩ := k
  dsimp only at hA hB hop hcc hrep hne ⊢
  have hc : c = 232 := by simpa [rel] using hr
  clear hr
  subst hc
  obtain ⟨hA1, hA2⟩ := hA
  obtain ⟨m, rfl⟩ : ∃ m, A = onImm m := ⟨_, hA1⟩
  subst hB
  obtain rfl : op = 30 := hop.symm.trans (if_pos (by decide))
  rw [wl_30]
  rw [if_pos (show (onImm m).k = 2 from rfl)]; exact List.mem_singleton.2 (by simp [wayR, opB, codeB, onImm, onReg, onZ])
theorem mw_37 {k : In} {c n : Int} {t : List Int} (H : ByRow k (⟨65535, 233, 32, 9, 0⟩ : Rw) c n t) : wayR (⟨65535, 233, 32, 9, 0⟩ : Rw) c t k.A k.B ∈ waysL k := by
  have hr := rel_of H.cb H.row
  have hA : k.A = onImm k.A.m ∧ 0 ≤ k.A.m ∧ k.A.m ≤ 4294967295 := Eq.mp (if_neg (by decide)) H.A
  have hB : k.B = onZ := Eq.mp (if_neg (by decide)) H.B
  have hop := H.op
  have hcc := H.cc
  have hrep := H.rep
  have hcb := H.cb
  have hn := H.nb
  have hne := H.ne
  have ht0 := (H.T (by decide)).1
  subst ht0
  clear H
  obtain ⟨op, cc, A, B, rep, l⟩ := k
  dsimp only at hA hB hop hcc hrep hne ⊢
  have hc : c = 233 := by simpa [rel] using hr
  clear hr
  subst hc
  obtain ⟨hA1, hA2⟩ := hA
  obtain ⟨m, rfl⟩ : ∃ m, A = onImm m := ⟨_, hA1⟩
  subst hB
  obtain rfl : op = 32 := hop.symm.trans (if_pos (by decide))
  rw [wl_32]
  rw [if_pos (show (onImm m).k = 2 from rfl)]; exact List.mem_append_right _ (List.mem_singleton.2 (by simp [wayR, opB, codeB, onImm, onReg, onZ]))
theorem mw_38 {k : In} {c n : Int} {t : List Int} (H : ByRow k (⟨65535, 235, 32, 8, 0⟩ : Rw) c n t) : wayR (⟨65535, 235, 32, 8, 0⟩ : Rw) c t k.A k.B ∈ waysL k := by
  have hr := rel_of H.cb H.row
  have hA : k.A = onImm k.A.m ∧ fitI k.A.m = true ∧ 0 ≤ k.A.m ∧ k.A.m ≤ 4294967295 := Eq.mp (if_neg (by decide)) H.A
  have hB : k.B = onZ := Eq.mp (if_neg (by decide)) H.B
  have hop := H.op
  have hcc := H.cc
  have hrep := H.rep
  have hcb := H.cb
  have hn := H.nb
  have hne := H.ne
  have ht0 := (H.T (by decide)).1
  subst ht0
  clear H
  obtain ⟨op, cc, A, B, rep, l⟩ := k
  dsimp only at hA hB hop hcc hrep hne ⊢
  have hc : c = 235 := by simpa [rel] using hr
  clear hr
  subst hc
  obtain ⟨hA1, hA2⟩ := hA
  obtain ⟨m, rfl⟩ : ∃ m, A = onImm m := ⟨_, hA1⟩
  have hf : fitI m = true := hA2.1
  subst hB
  obtain rfl : op = 32 := hop.symm.trans (if_pos (by decide))
  rw [wl_32]
  rw [if_pos (show (onImm m).k = 2 from rfl)]; exact List.mem_append_left _ (by rw [if_pos (show fitI (onImm m).m = true from hf)]; exact List.mem_singleton.2 (by simp [wayR, opB, codeB, onImm, onReg, onZ]))
theorem mw_39 {k : In} {c n : Int} {t : List Int} (H : ByRow k (⟨65535, 247, 56, 6, 9⟩ : Rw) c n t) : wayR (⟨65535, 247, 56, 6, 9⟩ : Rw) c t k.A k.B ∈ waysL k := by
  have hr := rel_of H.cb H.row
  have hA : RMb k.A ∧ t ∈ modT k.A n := Eq.mp (if_pos rfl) H.A
  have hB : k.B = onImm k.B.m ∧ 0 ≤ k.B.m ∧ k.B.m ≤ 4294967295 := Eq.mp (if_neg (by decide)) H.B
  have hop := H.op
  have hcc := H.cc
  have hrep := H.rep
  have hcb := H.cb
  have hn := H.nb
  have hne := H.ne
  clear H
  obtain ⟨op, cc, A, B, rep, l⟩ := k
  dsimp only at hA hB hop hcc hrep hne ⊢
  have hc : c = 247 := by simpa [rel] using hr
  clear hr
  subst hc
  obtain ⟨hR, ht⟩ := hA
  obtain ⟨hB1, hB2⟩ := hB
  obtain ⟨m, rfl⟩ : ∃ m, B = onImm m := ⟨_, hB1⟩
  rw [op_n (by decide) (by decide) hn] at hop
  rcases nat_of' hn with e | e | e | e | e | e | e | e
  · subst e
    obtain rfl : op = 11 := hop.symm
    rw [wl_11]
    rw [if_neg (show ¬ (onImm m).k = 1 by simp [onImm])]; exact List.mem_append_right _ (in_b4 (in_mW ht rfl) (by simp [wayR, opB, codeB, onImm, onReg, onZ]))
  · subst e; exact absurd hop.symm hne.1
  · subst e; exact absurd hop.symm hne.1
  · subst e; exact absurd hop.symm hne.1
  · subst e; exact absurd hop.symm hne.1
  · subst e; exact absurd hop.symm hne.1
  · subst e; exact absurd hop.symm hne.1
  · subst e; exact absurd hop.symm hne.1
theorem mw_40 {k : In} {c n : Int} {t : List Int} (H : ByRow k (⟨65535, 247, 57, 6, 0⟩ : Rw) c n t) : wayR (⟨65535, 247, 57, 6, 0⟩ : Rw) c t k.A k.B ∈ waysL k := by
  have hr := rel_of H.cb H.row
  have hA : RMb k.A ∧ t ∈ modT k.A n := Eq.mp (if_pos rfl) H.A
  have hB : k.B = onZ := Eq.mp (if_neg (by decide)) H.B
  have hop := H.op
  have hcc := H.cc
  have hrep := H.rep
  have hcb := H.cb
  have hn := H.nb
  have hne := H.ne
  clear H
  obtain ⟨op, cc, A, B, rep, l⟩ := k
  dsimp only at hA hB hop hcc hrep hne ⊢
  have hc : c = 247 := by simpa [rel] using hr
  clear hr
  subst hc
  obtain ⟨hR, ht⟩ := hA
  subst hB
  rw [op_n (by decide) (by decide) hn] at hop
  rcases nat_of' hn with e | e | e | e | e | e | e | e
  · subst e; exact absurd hop.symm hne.1
  · subst e; exact absurd hop.symm hne.1
  · subst e
    obtain rfl : op = 14 := hop.symm
    rw [wl_14]
    exact in_mW ht (by simp [wayR, opB, codeB, onImm, onReg, onZ])
  · subst e
    obtain rfl : op = 15 := hop.symm
    rw [wl_15]
    exact in_mW ht (by simp [wayR, opB, codeB, onImm, onReg, onZ])
  · subst e
    obtain rfl : op = 16 := hop.symm
    rw [wl_16]
    exact in_mW ht (by simp [wayR, opB, codeB, onImm, onReg, onZ])
  · subst e
    obtain rfl : op = 17 := hop.symm
    rw [wl_17]
    exact in_mW ht (by simp [wayR, opB, codeB, onImm, onReg, onZ])
  · subst e
    obtain rfl : op = 19 := hop.symm
    rw [wl_19]
    exact in_mW ht (by simp [wayR, opB, codeB, onImm, onReg, onZ])
  · subst e
    obtain rfl : op = 20 := hop.symm
    rw [wl_20]
    exact in_mW ht (by simp [wayR, opB, codeB, onImm, onReg, onZ])
theorem mw_41 {k : In} {c n : Int} {t : List Int} (H : ByRow k (⟨65535, 252, 39, 0, 0⟩ : Rw) c n t) : wayR (⟨65535, 252, 39, 0, 0⟩ : Rw) c t k.A k.B ∈ waysL k := by
  have hr := rel_of H.cb H.row
  have hA : k.A = onZ := Eq.mp (if_neg (by decide)) H.A
  have hB : k.B = onZ := Eq.mp (if_neg (by decide)) H.B
  have hop := H.op
  have hcc := H.cc
  have hrep := H.rep
  have hcb := H.cb
  have hn := H.nb
  have hne := H.ne
  have ht0 := (H.T (by decide)).1
  subst ht0
  clear H
  obtain ⟨op, cc, A, B, rep, l⟩ := k
  dsimp only at hA hB hop hcc hrep hne ⊢
  have hc : c = 252 := by simpa [rel] using hr
  clear hr
  subst hc
  subst hA
  subst hB
  obtain rfl : op = 39 := hop.symm.trans (if_pos (by decide))
  rw [wl_39]
  exact List.mem_singleton.2 (by simp [wayR, opB, codeB, onImm, onReg, onZ])
theorem mw_42 {k : In} {c n : Int} {t : List Int} (H : ByRow k (⟨65535, 253, 40, 0, 0⟩ : Rw) c n t) : wayR (⟨65535, 253, 40, 0, 0⟩ : Rw) c t k.A k.B ∈ waysL k := by
  have hr := rel_of H.cb H.row
  have hA : k.A = onZ := Eq.mp (if_neg (by decide)) H.A
  have hB : k.B = onZ := Eq.mp (if_neg (by decide)) H.B
  have hop := H.op
  have hcc := H.cc
  have hrep := H.rep
  have hcb := H.cb
  have hn := H.nb
  have hne := H.ne
  have ht0 := (H.T (by decide)).1
  subst ht0
  clear H
  obtain ⟨op, cc, A, B, rep, l⟩ := k
  dsimp only at hA hB hop hcc hrep hne ⊢
  have hc : c = 253 := by simpa [rel] using hr
  clear hr
  subst hc
  subst hA
  subst hB
  obtain rfl : op = 40 := hop.symm.trans (if_pos (by decide))
  rw [wl_40]
  exact List.mem_singleton.2 (by simp [wayR, opB, codeB, onImm, onReg, onZ])
theorem mw_43 {k : In} {c n : Int} {t : List Int} (H : ByRow k (⟨65535, 255, 58, 6, 0⟩ : Rw) c n t) : wayR (⟨65535, 255, 58, 6, 0⟩ : Rw) c t k.A k.B ∈ waysL k := by
  have hr := rel_of H.cb H.row
  have hA : RMb k.A ∧ t ∈ modT k.A n := Eq.mp (if_pos rfl) H.A
  have hB : k.B = onZ := Eq.mp (if_neg (by decide)) H.B
  have hop := H.op
  have hcc := H.cc
  have hrep := H.rep
  have hcb := H.cb
  have hn := H.nb
  have hne := H.ne
  clear H
  obtain ⟨op, cc, A, B, rep, l⟩ := k
  dsimp only at hA hB hop hcc hrep hne ⊢
  have hc : c = 255 := by simpa [rel] using hr
  clear hr
  subst hc
  obtain ⟨hR, ht⟩ := hA
  subst hB
  rw [op_n (by decide) (by decide) hn] at hop
  rcases nat_of' hn with e | e | e | e | e | e | e | e
  · subst e
    obtain rfl : op = 12 := hop.symm
    rw [wl_12]
    exact List.mem_append_right _ (in_mW ht (by simp [wayR, opB, codeB, onImm, onReg, onZ]))
  · subst e
    obtain rfl : op = 13 := hop.symm
    rw [wl_13]
    exact List.mem_append_right _ (in_mW ht (by simp [wayR, opB, codeB, onImm, onReg, onZ]))
  · subst e
    obtain rfl : op = 30 := hop.symm
    rw [wl_30]
    rw [if_neg (rm_k hR)]; exact in_mW ht (by simp [wayR, opB, codeB, onImm, onReg, onZ])
  · subst e; exact absurd hop.symm hne.1
  · subst e
    obtain rfl : op = 32 := hop.symm
    rw [wl_32]
    rw [if_neg (rm_k hR)]; exact in_mW ht (by simp [wayR, opB, codeB, onImm, onReg, onZ])
  · subst e; exact absurd hop.symm hne.1
  · subst e
    obtain rfl : op = 28 := hop.symm
    rw [wl_28]
    rw [if_neg (rm_k hR)]; exact List.mem_append_right _ (in_mW ht (by simp [wayR, opB, codeB, onImm, onReg, onZ]))
  · subst e; exact absurd hop.symm hne.2
theorem mw_44 {k : In} {c n : Int} {t : List Int} (H : ByRow k (⟨65535, 3851, -1, 0, 0⟩ : Rw) c n t) : wayR (⟨65535, 3851, -1, 0, 0⟩ : Rw) c t k.A k.B ∈ waysL k := by
  have hr := rel_of H.cb H.row
  have hA : k.A = onZ := Eq.mp (if_neg (by decide)) H.A
  have hB : k.B = onZ := Eq.mp (if_neg (by decide)) H.B
  have hop := H.op
  have hcc := H.cc
  have hrep := H.rep
  have hcb := H.cb
  have hn := H.nb
  have hne := H.ne
  have ht0 := (H.T (by decide)).1
  subst ht0
  clear H
  obtain ⟨op, cc, A, B, rep, l⟩ := k
  dsimp only at hA hB hop hcc hrep hne ⊢
  have hc : c = 3851 := by simpa [rel] using hr
  clear hr
  subst hc
  subst hA
  subst hB
  exact absurd (hop.symm.trans (if_pos (by decide))) hne.2
theorem mw_45 {k : In} {c n : Int} {t : List Int} (H : ByRow k (⟨65520, 3904, 35, 5, 6⟩ : Rw) c n t) : wayR (⟨65520, 3904, 35, 5, 6⟩ : Rw) c t k.A k.B ∈ waysL k := by
  have hr := rel_of H.cb H.row
  have hA : k.A = onReg n := Eq.mp (if_neg (by decide)) H.A
  have hB : RMb k.B ∧ t ∈ modT k.B n := Eq.mp (if_pos rfl) H.B
  have hop := H.op
  have hcc := H.cc
  have hrep := H.rep
  have hcb := H.cb
  have hn := H.nb
  have hne := H.ne
  clear H
  obtain ⟨op, cc, A, B, rep, l⟩ := k
  dsimp only at hA hB hop hcc hrep hne ⊢
  have hc : c - c % 16 = 3904 := by simpa [rel] using hr
  clear hr
  subst hA
  obtain ⟨hR, ht⟩ := hB
  obtain rfl : op = 35 := hop.symm.trans (if_pos (by decide))
  have hc2 : cc = c % 16 := hcc.trans (if_pos rfl)
  rw [wl_35]
  exact in_mW ht (by simp [wayR, opB, onReg, (code2 (c := c) (d := 15) (e := 64 + cc) (by omega) (by omega) (by omega))])
theorem mw_46 {k : In} {c n : Int} {t : List Int} (H : ByRow k (⟨65520, 3968, 33, 9, 0⟩ : Rw) c n t) : wayR (⟨65520, 3968, 33, 9, 0⟩ : Rw) c t k.A k.B ∈ waysL k := by
  have hr := rel_of H.cb H.row
  have hA : k.A = onImm k.A.m ∧ 0 ≤ k.A.m ∧ k.A.m ≤ 4294967295 := Eq.mp (if_neg (by decide)) H.A
  have hB : k.B = onZ := Eq.mp (if_neg (by decide)) H.B
  have hop := H.op
  have hcc := H.cc
  have hrep := H.rep
  have hcb := H.cb
  have hn := H.nb
  have hne := H.ne
  have ht0 := (H.T (by decide)).1
  subst ht0
  clear H
  obtain ⟨op, cc, A, B, rep, l⟩ := k
  dsimp only at hA hB hop hcc hrep hne ⊢
  have hc : c - c % 16 = 3968 := by simpa [rel] using hr
  clear hr
  obtain ⟨hA1, hA2⟩ := hA
  obtain ⟨m, rfl⟩ : ∃ m, A = onImm m := ⟨_, hA1⟩
  subst hB
  obtain rfl : op = 33 := hop.symm.trans (if_pos (by decide))
  have hc2 : cc = c % 16 := hcc.trans (if_pos rfl)
  rw [wl_33]
  exact List.mem_append_right _ (List.mem_singleton.2 (by simp [wayR, opB, onImm, onZ, (code2 (c := c) (d := 15) (e := 128 + cc) (by omega) (by omega) (by omega))]))
theorem mw_47 {k : In} {c n : Int} {t : List Int} (H : ByRow k (⟨65520, 3984, 61, 6, 0⟩ : Rw) c n t) : wayR (⟨65520, 3984, 61, 6, 0⟩ : Rw) c t k.A k.B ∈ waysL k := by
  have hr := rel_of H.cb H.row
  have hA : RMb k.A ∧ t ∈ modT k.A n := Eq.mp (if_pos rfl) H.A
  have hB : k.B = onZ := Eq.mp (if_neg (by decide)) H.B
  have hop := H.op
  have hcc := H.cc
  have hrep := H.rep
  have hcb := H.cb
  have hn := H.nb
  have hne := H.ne
  clear H
  obtain ⟨op, cc, A, B, rep, l⟩ := k
  dsimp only at hA hB hop hcc hrep hne ⊢
  have hc : c - c % 16 = 3984 := by simpa [rel] using hr
  clear hr
  obtain ⟨hR, ht⟩ := hA
  subst hB
  rw [op_n (by decide) (by decide) hn] at hop
  have hc2 : cc = c % 16 := hcc.trans (if_pos rfl)
  rcases nat_of' hn with e | e | e | e | e | e | e | e
  · subst e
    obtain rfl : op = 34 := hop.symm
    rw [wl_34]
    exact in_mW ht (by simp [wayR, opB, onZ, (code2 (c := c) (d := 15) (e := 144 + cc) (by omega) (by omega) (by omega))])
  · subst e; exact absurd hop.symm hne.1
  · subst e; exact absurd hop.symm hne.1
  · subst e; exact absurd hop.symm hne.1
  · subst e; exact absurd hop.symm hne.1
  · subst e; exact absurd hop.symm hne.1
  · subst e; exact absurd hop.symm hne.1
  · subst e; exact absurd hop.symm hne.1
theorem mw_48 {k : In} {c n : Int} {t : List Int} (H : ByRow k (⟨65535, 4015, 18, 5, 6⟩ : Rw) c n t) : wayR (⟨65535, 4015, 18, 5, 6⟩ : Rw) c t k.A k.B ∈ waysL k := by
  have hr := rel_of H.cb H.row
  have hA : k.A = onReg n := Eq.mp (if_neg (by decide)) H.A
  have hB : RMb k.B ∧ t ∈ modT k.B n := Eq.mp (if_pos rfl) H.B
  have hop := H.op
  have hcc := H.cc
  have hrep := H.rep
  have hcb := H.cb
  have hn := H.nb
  have hne := H.ne
  clear H
  obtain ⟨op, cc, A, B, rep, l⟩ := k
  dsimp only at hA hB hop hcc hrep hne ⊢
  have hc : c = 4015 := by simpa [rel] using hr
  clear hr
  subst hc
  subst hA
  obtain ⟨hR, ht⟩ := hB
  obtain rfl : op = 18 := hop.symm.trans (if_pos (by decide))
  rw [wl_18]
  exact in_mW ht (by simp [wayR, opB, codeB, onImm, onReg, onZ])
theorem mw_49 {k : In} {c n : Int} {t : List Int} (H : ByRow k (⟨65535, 4022, 36, 5, 6⟩ : Rw) c n t) : wayR (⟨65535, 4022, 36, 5, 6⟩ : Rw) c t k.A k.B ∈ waysL k := by
  have hr := rel_of H.cb H.row
  have hA : k.A = onReg n := Eq.mp (if_neg (by decide)) H.A
  have hB : RMb k.B ∧ t ∈ modT k.B n := Eq.mp (if_pos rfl) H.B
  have hop := H.op
  have hcc := H.cc
  have hrep := H.rep
  have hcb := H.cb
  have hn := H.nb
  have hne := H.ne
  clear H
  obtain ⟨op, cc, A, B, rep, l⟩ := k
  dsimp only at hA hB hop hcc hrep hne ⊢
  have hc : c = 4022 := by simpa [rel] using hr
  clear hr
  subst hc
  subst hA
  obtain ⟨hR, ht⟩ := hB
  obtain rfl : op = 36 := hop.symm.trans (if_pos (by decide))
  rw [wl_36]
  exact in_mW ht (by simp [wayR, opB, codeB, onImm, onReg, onZ])
theorem mw_50 {k : In} {c n : Int} {t : List Int} (H : ByRow k (⟨65535, 4030, 37, 5, 6⟩ : Rw) c n t) : wayR (⟨65535, 4030, 37, 5, 6⟩ : Rw) c t k.A k.B ∈ waysL k := by
  have hr := rel_of H.cb H.row
  have hA : k.A = onReg n := Eq.mp (if_neg (by decide)) H.A
  have hB : RMb k.B ∧ t ∈ modT k.B n := Eq.mp (if_pos rfl) H.B
  have hop := H.op
  have hcc := H.cc
  have hrep := H.rep
  have hcb := H.cb
  have hn := H.nb
  have hne := H.ne
  clear H
  obtain ⟨op, cc, A, B, rep, l⟩ := k
  dsimp only at hA hB hop hcc hrep hne ⊢
  have hc : c = 4030 := by simpa [rel] using hr
  clear hr
  subst hc
  subst hA
  obtain ⟨hR, ht⟩ := hB
  obtain rfl : op = 37 := hop.symm.trans (if_pos (by decide))
  rw [wl_37]
  exact in_mW ht (by simp [wayR, opB, codeB, onImm, onReg, onZ])
theorem mw_51 {k : In} {c n : Int} {t : List Int} (H : ByRow k (⟨65535, 55776, 51, 0, 0⟩ : Rw) c n t) : wayR (⟨65535, 55776, 51, 0, 0⟩ : Rw) c t k.A k.B ∈ waysL k := by
  have hr := rel_of H.cb H.row
  have hA : k.A = onZ := Eq.mp (if_neg (by decide)) H.A
  have hB : k.B = onZ := Eq.mp (if_neg (by decide)) H.B
  have hop := H.op
  have hcc := H.cc
  have hrep := H.rep
  have hcb := H.cb
  have hn := H.nb
  have hne := H.ne
  have ht0 := (H.T (by decide)).1
  subst ht0
  clear H
  obtain ⟨op, cc, A, B, rep, l⟩ := k
  dsimp only at hA hB hop hcc hrep hne ⊢
  have hc : c = 55776 := by simpa [rel] using hr
  clear hr
  subst hc
  subst hA
  subst hB
  obtain rfl : op = 51 := hop.symm.trans (if_pos (by decide))
  rw [wl_51]
  exact List.mem_singleton.2 (by simp [wayR, opB, codeB, onImm, onReg, onZ])
theorem mw_52 {k : In} {c n : Int} {t : List Int} (H : ByRow k (⟨65535, 55777, 52, 0, 0⟩ : Rw) c n t) : wayR (⟨65535, 55777, 52, 0, 0⟩ : Rw) c t k.A k.B ∈ waysL k := by
  have hr := rel_of H.cb H.row
  have hA : k.A = onZ := Eq.mp (if_neg (by decide)) H.A
  have hB : k.B = onZ := Eq.mp (if_neg (by decide)) H.B
  have hop := H.op
  have hcc := H.cc
  have hrep := H.rep
  have hcb := H.cb
  have hn := H.nb
  have hne := H.ne
  have ht0 := (H.T (by decide)).1
  subst ht0
  clear H
  obtain ⟨op, cc, A, B, rep, l⟩ := k
  dsimp only at hA hB hop hcc hrep hne ⊢
  have hc : c = 55777 := by simpa [rel] using hr
  clear hr
  subst hc
  subst hA
  subst hB
  obtain rfl : op = 52 := hop.symm.trans (if_pos (by decide))
  rw [wl_52]
  exact List.mem_singleton.2 (by simp [wayR, opB, codeB, onImm, onReg, onZ])
theorem mw_53 {k : In} {c n : Int} {t : List Int} (H : ByRow k (⟨65535, 62373, 41, 0, 0⟩ : Rw) c n t) : wayR (⟨65535, 62373, 41, 0, 0⟩ : Rw) c t k.A k.B ∈ waysL k := by
  have hr := rel_of H.cb H.row
  have hA : k.A = onZ := Eq.mp (if_neg (by decide)) H.A
  have hB : k.B = onZ := Eq.mp (if_neg (by decide)) H.B
  have hop := H.op
  have hcc := H.cc
  have hrep := H.rep
  have hcb := H.cb
  have hn := H.nb
  have hne := H.ne
  have ht0 := (H.T (by decide)).1
  subst ht0
  clear H
  obtain ⟨op, cc, A, B, rep, l⟩ := k
  dsimp only at hA hB hop hcc hrep hne ⊢
  have hc : c = 62373 := by simpa [rel] using hr
  clear hr
  subst hc
  subst hA
  subst hB
  obtain rfl : op = 41 := hop.symm.trans (if_pos (by decide))
  obtain rfl : rep = true := hrep.trans (by decide)
  rw [wl_41, if_pos rfl]
  exact List.mem_singleton.2 (by simp [wayR, opB, codeB, onImm, onReg, onZ])
theorem mw_54 {k : In} {c n : Int} {t : List Int} (H : ByRow k (⟨65535, 62379, 42, 0, 0⟩ : Rw) c n t) : wayR (⟨65535, 62379, 42, 0, 0⟩ : Rw) c t k.A k.B ∈ waysL k := by
  have hr := rel_of H.cb H.row
  have hA : k.A = onZ := Eq.mp (if_neg (by decide)) H.A
  have hB : k.B = onZ := Eq.mp (if_neg (by decide)) H.B
  have hop := H.op
  have hcc := H.cc
  have hrep := H.rep
  have hcb := H.cb
  have hn := H.nb
  have hne := H.ne
  have ht0 := (H.T (by decide)).1
  subst ht0
  clear H
  obtain ⟨op, cc, A, B, rep, l⟩ := k
  dsimp only at hA hB hop hcc hrep hne ⊢
  have hc : c = 62379 := by simpa [rel] using hr
  clear hr
  subst hc
  subst hA
  subst hB
  obtain rfl : op = 42 := hop.symm.trans (if_pos (by decide))
  obtain rfl : rep = true := hrep.trans (by decide)
  rw [wl_42, if_pos rfl]
  exact List.mem_singleton.2 (by simp [wayR, opB, codeB, onImm, onReg, onZ])
theorem mw_any {k : In} {r : Rw} {c n : Int} {t : List Int} (H : ByRow k r c n t) (hi : isB k = true) : wayR r c t k.A k.B ∈ waysL k := by
  have h := (rowIn H.row).1
  simp only [singleL, doubleL, List.cons_append, List.nil_append, List.mem_cons, List.not_mem_nil, or_false] at h
  rcases h with rfl | rfl | rfl | rfl | rfl | rfl | rfl | rfl | rfl | rfl | rfl | rfl | rfl | rfl | rfl | rfl | rfl | rfl | rfl | rfl | rfl | rfl | rfl | rfl | rfl | rfl | rfl | rfl | rfl | rfl | rfl | rfl | rfl | rfl | rfl | rfl | rfl | rfl | rfl | rfl | rfl | rfl | rfl | rfl | rfl | rfl | rfl | rfl | rfl | rfl | rfl | rfl | rfl | rfl | rfl
  · exact mw_0 H
  · exact mw_1 H
  · exact mw_2 H
  · exact mw_3 H
  · exact mw_4 H
  · exact mw_5 H
  · exact mw_6 H
  · exact mw_7 H
  · exact mw_8 H
  · exact mw_9 H
  · exact mw_10 H
  · exact mw_11 H
  · exact mw_12 H
  · exact mw_13 H
  · exact mw_14 H
  · exact mw_15 H
  · exact mw_16 H
  · exact mw_17 H
  · exact mw_18 H
  · exact mw_19 H
  · exact mw_20 H
  · exact mw_21 H
  · exact mw_22 H
  · exact mw_23 H
  · exact mw_24 H
  · exact mw_25 H
  · exact mw_26 H
  · exact mw_27 H
  · exact mw_28 H
  · exact mw_29 H
  · exact mw_30 H
  · exact mw_31 H hi
  · exact mw_32 H
  · exact mw_33 H
  · exact mw_34 H
  · exact mw_35 H
  · exact mw_36 H
  · exact mw_37 H
  · exact mw_38 H
  · exact mw_39 H
  · exact mw_40 H
  · exact mw_41 H
  · exact mw_42 H
  · exact mw_43 H
  · exact mw_44 H
  · exact mw_45 H
  · exact mw_46 H
  · exact mw_47 H
  · exact mw_48 H
  · exact mw_49 H
  · exact mw_50 H
  · exact mw_51 H
  · exact mw_52 H
  · exact mw_53 H
  · exact mw_54 H
end Go.Proofs.YtbfkgakkkibejaaDoor
