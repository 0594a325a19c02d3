import Derived.Test.YtcgleggdochbeaaDoorS07
namespace Go.Proofs.YtcgleggdochbeaaDoor
open Go.RowKit
set_option linter.unusedVariables false
set_option linter.unusedSimpArgs false
set_option linter.unusedSectionVars false
theorem isB_len {op c : Int} {A B : On} {rep : Bool} {l l2 : Int} (h : isB ⟨op, c, A, B, rep, l⟩ = true) (hl : 0 ≤ l2 ∧ l2 ≤ 15) : isB ⟨op, c, A, B, rep, l2⟩ = true := by
 unfold isB at h ⊢
 dsimp only at h ⊢
 rw [decide_eq_true hl.1, decide_eq_true hl.2]
 simp only [Bool.true_and, Bool.and_eq_true] at h ⊢
 exact ⟨⟨h.1.1.2, h.1.2⟩, h.2⟩
theorem rows_imm : ∀ r ∈ singleL ++ doubleL, (opB r.a onZ).length + (opB r.b onZ).length ≤ 4 := by
 have : (singleL ++ doubleL).all (fun r => decide ((opB r.a onZ).length + (opB r.b onZ).length ≤ 4)) = true := by kernel_rfl
 intro r hr
 simpa using List.all_eq_true.1 this r hr
theorem opB_len (k : Int) (X Y : On) : (opB k X).length = (opB k Y).length := by
 unfold opB
 (repeat' split) <;> rfl
theorem way_len {k : In} {r : Rw} {c n : Int} {t : List Int} (H : ByRow k r c n t) : 1 ≤ (wayR r c t k.A k.B).length ∧ (wayR r c t k.A k.B).length ≤ 12 := by
 have h1 := rows_imm r (rowIn H.row).1
 have h2 := opB_len r.a k.A onZ
 have h3 := opB_len r.b k.B onZ
 have hc : 1 ≤ (codeB c).length ∧ (codeB c).length ≤ 2 := by unfold codeB; split <;> simp
 have ht : t.length ≤ 6 := by
  by_cases ha : r.a = 6
  ·have := H.A; rw [if_pos ha] at this; exact (reads_mod H.nb this.1 this.2).len.2
  ·by_cases hb : r.b = 6
   ·have := H.B; rw [if_pos hb] at this; exact (reads_mod H.nb this.1 this.2).len.2
   ·rw [(H.T (fun h => h.elim ha hb)).1]; simp
 unfold wayR
 simp only [List.length_append]
 omega
theorem fewRows1 : ∀ n : Nat, n < 256 → (rowsOf (n : Int)).length ≤ 1 ∨ n = 141 ∨ n = 247 := of_decide_eq_true (by kernel_rfl)
theorem fewRows15 : ∀ n : Nat, n < 256 → (rowsOf (3840 + (n : Int))).length ≤ 1 := of_decide_eq_true (by kernel_rfl)
theorem fewRows217 : ∀ n : Nat, n < 256 → (rowsOf (55552 + (n : Int))).length ≤ 1 := of_decide_eq_true (by kernel_rfl)
theorem fewRows243 : ∀ n : Nat, n < 256 → (rowsOf (62208 + (n : Int))).length ≤ 1 := of_decide_eq_true (by kernel_rfl)
theorem fewRows {c : Int} (hc : (0 ≤ c ∧ c ≤ 255 ∧ ¬ (c = 15 ∨ c = 217 ∨ c = 243)) ∨ (256 ≤ c ∧ c ≤ 65535 ∧ (c / 256 = 15 ∨ c / 256 = 217 ∨ c / 256 = 243))) : (rowsOf c).length ≤ 1 ∨ c = 141 ∨ c = 247 := by
 rcases hc with ⟨h1, h2, -⟩ | ⟨h1, h2, h3 | h3 | h3⟩
 ·obtain ⟨n, rfl⟩ := Int.eq_ofNat_of_zero_le h1
  rcases fewRows1 n (by omega) with h | h | h
  ·exact .inl h
  ·exact .inr (.inl (by omega))
  ·exact .inr (.inr (by omega))
 ·obtain ⟨n, hn⟩ := Int.eq_ofNat_of_zero_le (show 0 ≤ c - 3840 by omega)
  obtain rfl : c = 3840 + (n : Int) := by omega
  exact .inl (fewRows15 n (by omega))
 ·obtain ⟨n, hn⟩ := Int.eq_ofNat_of_zero_le (show 0 ≤ c - 55552 by omega)
  obtain rfl : c = 55552 + (n : Int) := by omega
  exact .inl (fewRows217 n (by omega))
 ·obtain ⟨n, hn⟩ := Int.eq_ofNat_of_zero_le (show 0 ≤ c - 62208 by omega)
  obtain rfl : c = 62208 + (n : Int) := by omega
  exact .inl (fewRows243 n (by omega))
theorem rows_8d : rowsOf 141 = [⟨65535, 141, 26, 5, 6⟩, ⟨65535, 141, -1, 0, 0⟩] := by kernel_rfl
theorem rows_f7w : rowsOf 247 = [⟨65535, 247, 56, 6, 9⟩, ⟨65535, 247, 57, 6, 0⟩] := by kernel_rfl
theorem dec_way {k : In} {r : Rw} {c n : Int} {t : List Int} (H : ByRow k r c n t) (hi : isB k = true) (suf : List Int) :
  decM (wayR r c t k.A k.B ++ suf) = .ok ⟨k.op, k.c, k.A, k.B, k.rep, (wayR r c t k.A k.B).length⟩ := by
 obtain ⟨ho, hb⟩ := by_way H suf
 have hl := way_len H
 have hi2 : isB ⟨k.op, k.c, k.A, k.B, k.rep, ((wayR r c t k.A k.B).length : Int)⟩ = true := isB_len hi (by omega)
 have hr := H.row
 rcases fewRows H.cb with h1 | rfl | rfl
 ·have hone : rowsOf c = [r] := by
   cases hL : rowsOf c with
   | nil => rw [hL] at hr; cases hr
   | cons x xs =>
    rw [hL] at h1 hr
    have : xs = [] := List.eq_nil_of_length_eq_zero (by have h1 : (x :: xs).length ≤ 1 := h1; rw [List.length_cons] at h1; omega)
    subst this
    rw [List.mem_singleton.1 hr]
  rw [dec_one ho hone, hb]
  exact isOr_ok hi2
 ·rw [rows_8d] at hr
  rcases List.mem_cons.1 hr with rfl | hr
  ·rw [dec_two ho rows_8d, hb]
   dsimp only
   rw [if_pos hi2]
  ·obtain rfl := List.mem_singleton.1 hr
   exact absurd (H.op.symm.trans (if_pos (by decide))) H.ne.2
 ·rw [rows_f7w] at hr
  rcases List.mem_cons.1 hr with rfl | hr
  ·rw [dec_two ho rows_f7w, hb]
   dsimp only
   rw [if_pos hi2]
  ·obtain rfl := List.mem_singleton.1 hr
   have hA := H.A
   rw [if_pos rfl] at hA
   have hR := reads_mod H.nb hA.1 hA.2
   have hz : ¬ n = 0 := by
    intro e
    have hop := H.op
    rw [op_n (by decide) (by decide) H.nb, e] at hop
    exact H.ne.1 hop.symm
   have e1 : wayR ⟨65535, 247, 57, 6, 0⟩ 247 t k.A k.B ++ suf = codeB 247 ++ t ++ suf := by simp [wayR, opB]
   have hf : byM (wayR ⟨65535, 247, 57, 6, 0⟩ 247 t k.A k.B ++ suf) 247 (codeB 247).length ⟨65535, 247, 56, 6, 9⟩ = .ok inZ := by
    unfold byM
    have hlen := hR.len.1
    rw [if_pos (.inl rfl), e1, if_pos (by simp; omega)]
    refine rest_zero ?_
    rw [show (codeB 247 ++ t ++ suf).getD (codeB 247).length 0 = t.getD 0 0 from getD_mid _ t _ (j := 0) hR.len.1, ← opM_n 247 hR.field _ H.nb, op_n (by decide) (by decide) H.nb]
    rcases nat_of' H.nb with e | e | e | e | e | e | e | e
    ·exact absurd e hz
    all_goals rw [e]; rfl
   rw [dec_two ho rows_f7w, hf]
   dsimp only
   rw [isB_inZ, if_neg Bool.false_ne_true, hb]
   exact isOr_ok hi2
theorem ways_read {k : In} (hi : isB k = true) (hA : 0 ≤ k.A.m ∧ k.A.m ≤ 4294967295) (hB : 0 ≤ k.B.m ∧ k.B.m ≤ 4294967295) {w : List Int} (hw : w ∈ waysL k) (suf : List Int) :
  decM (w ++ suf) = .ok ⟨k.op, k.c, k.A, k.B, k.rep, w.length⟩ ∧ 1 ≤ w.length ∧ w.length ≤ 12 := by
 obtain ⟨r, c, n, t, H, rfl⟩ := bw_any hi hA hB hw
 exact ⟨dec_way H hi suf, way_len H⟩
theorem ways_least {zs : List Int} (hz : ∀ z ∈ zs, 0 ≤ z ∧ z ≤ 255) {k : In} (h : decM zs = .ok k) : ∃ w ∈ waysL k, (w.length : Int) = k.len ∧ lexLe w (zs.take k.len.toNat) = true := by
 obtain ⟨r, c, n, t, H, h1, h2⟩ := dom_row hz h
 exact ⟨_, mw_any H (dec_len h).1, h1, h2⟩
end Go.Proofs.YtcgleggdochbeaaDoor
