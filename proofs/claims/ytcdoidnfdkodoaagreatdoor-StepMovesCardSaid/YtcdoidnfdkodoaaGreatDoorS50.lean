import Derived.Test.YtcdoidnfdkodoaaGreatDoorS49
namespace Go.Proofs.YtcdoidnfdkodoaaGreatDoor
open Go.RowKit
set_option linter.unusedVariables false
set_option linter.unusedSimpArgs false
set_option linter.unusedSectionVars false
theorem lack_of {m : Mm} {a rt : Int} : ∀ {n : Nat}, (∀ i, i < n → lackP m a rt i = false) → lackL m a rt n = none
  | 0, _ => rfl
  | n + 1, h => by
    unfold lackL
    rw [lack_of (n := n) (fun i hi => h i (by omega))]
    simp only [h n (by omega), Bool.false_eq_true, if_false]
theorem lack_all {m : Mm} {A rt : Int} (hr : ∀ p, p < 4 → m.r p = 7) (h : 0 ≤ A ∧ A ≤ 1020) (hrt : rt = 1 ∨ rt = 2 ∨ rt = 4) : lackL m A rt 4 = none :=
  lack_of fun i hi => by
    unfold lackP
    rw [hr _ (by omega)]
    rcases hrt with rfl | rfl | rfl <;> decide
theorem bytes_there (m : Mm) (A : Nat) (n v : Int) (i : Nat) (h : i < numL n) : (wroteS m A n v).b (A + i) = v / 2 ^ (8 * i) % 256 := by
  show (if A ≤ A + i ∧ A + i < A + (bytesV v (numL n)).length then (bytesV v (numL n)).getD (A + i - A) 0 else m.b (A + i)) = _
  rw [if_pos (by rw [bytesV_len]; omega), show A + i - A = i by omega, bytesV_at _ h]
theorem read_w4 (m : Mm) (A : Nat) (v : Int) (hv : 0 ≤ v ∧ v < 4294967296) : readL (wroteS m A 4 v) A 4 = v := by
  have hb := fun i h => bytes_there m A 4 v i h
  have b0 := hb 0 (by decide)
  have b1 := hb 1 (by decide)
  have b2 := hb 2 (by decide)
  have b3 := hb 3 (by decide)
  simp only [readL, b0, b1, b2, b3]
  omega
theorem plO_at (g : Gs) (a : Int) (h : 0 ≤ a ∧ a ≤ 4294967295) : plO g (atO a) = a := by
  unfold plO
  rw [if_pos rfl]
  show ((regV g (-1) + regV g (-1) * 1 % 4294967296) % 4294967296 + a) % 4294967296 = a
  have : regV g (-1) = 0 := rfl
  rw [this]
  omega
def iPsh (k : Nat) : In := ⟨28, 0, ⟨1, k, 0, 0, 0, 0⟩, oz, false, 1⟩
def iPop (k : Nat) : In := ⟨29, 0, ⟨1, k, 0, 0, 0, 0⟩, oz, false, 1⟩
def iCal : In := ⟨30, 0, ⟨2, 0, 40, 0, 0, 0⟩, oz, false, 5⟩
def iRet : In := ⟨31, 0, oz, oz, false, 1⟩
theorem isB_psh : ∀ k : Nat, k < 8 → isB (iPsh k) = true := by decide
theorem isB_pop : ∀ k : Nat, k < 8 → isB (iPop k) = true := by decide
theorem isB_cal : isB iCal = true := by kernel_rfl
theorem isB_ret : isB iRet = true := by kernel_rfl
theorem regV_k (g : Gs) (k : Nat) (hk : k < 8) : regV g (k : Int) = g.r k := by
  unfold regV
  rw [if_neg (by omega), show ((k : Int) % 8).toNat = k by omega]
section
variable {m : Mm} {g : Gs}
theorem st_push (ok : m.ok) (hr : ∀ p, p < 4 → m.r p = 7) (gk : g.ok) {t : Int} (h4 : topL g = t) (ht : 0 ≤ t ∧ t ≤ 1020) (k : Nat) (hk : k < 8) :
    DoR m g (iPsh k) (setr (goOn g (iPsh k)) 4 t) (wroteS m t.toNat 4 (g.r k)) :=
  DoR.of (isB_psh k hk) ⟨(by decide : (0 : Int) ≤ 1), (by decide : (1 : Int) ≤ 15)⟩ fun B => doA_of fun W G hG tb => gdoA28 hG _ rfl _ fun W' hG' b' =>
    gstack_push hG' _ rfl (.ok (g.r k)) (.ok (setr (goOn g (iPsh k)) 4 t) (wroteS m t.toNat 4 (g.r k))) (by
      have q := rd_reg B (goOn g (iPsh k)) m (iPsh k).A rfl
      rwa [show regV (goOn g (iPsh k)) (iPsh k).A.r = g.r k from regV_k _ k hk] at q) (by
      have e : topL (goOn g (iPsh k)) = t := h4
      refine ⟨by rw [e], ?_⟩
      rw [e]
      have q := wr_mem B (goOn g (iPsh k)) m ok (atO t) 4 (g.r k) (gk.r k) rfl (by rw [plO_at _ _ (by omega)]; exact lack_all hr ht (by omega))
      rwa [plO_at _ _ (by omega)] at q)
theorem st_pop (ok : m.ok) (hr : ∀ p, p < 4 → m.r p = 7) {t v : Int} (h4 : g.r 4 = t) (ht : 0 ≤ t ∧ t ≤ 1020) (hv : readL m t.toNat 4 = v) (k : Nat) (hk : k < 8) :
    DoR m g (iPop k) (setr (setr (goOn g (iPop k)) 4 (popL g)) k v) m :=
  DoR.of (isB_pop k hk) ⟨(by decide : (0 : Int) ≤ 1), (by decide : (1 : Int) ≤ 15)⟩ fun B => doA_of fun W G hG tb => gdoA29 hG _ rfl _ fun W' hG' b' =>
    gstack_pop hG' _ rfl (.ok v) (.ok (setr (setr (goOn g (iPop k)) 4 (popL g)) k v) m) (by
      have q := rd_mem B (goOn g (iPop k)) m ok (atO t) 4 (q := 4) rfl rfl (by rw [plO_at _ _ (by omega)]; exact lack_all hr ht (by omega))
      rw [plO_at _ _ (by omega), hv] at q
      show RdY B (goOn g (iPop k)) m (atO ((goOn g (iPop k)).r 4)) 4 v
      rw [show (goOn g (iPop k)).r 4 = t from h4]
      exact q) (wr_reg B (setr (goOn g (iPop k)) 4 (popL g)) m (iPop k).A k hk rfl rfl v)
theorem st_call (ok : m.ok) (hr : ∀ p, p < 4 → m.r p = 7) {t : Int} (h4 : topL g = t) (ht : 0 ≤ t ∧ t ≤ 1020) :
    DoR m g iCal { setr (goOn g iCal) 4 t with pc := ((goOn g iCal).pc + 40) % 4294967296 } (wroteS m t.toNat 4 (goOn g iCal).pc) :=
  DoR.of isB_cal ⟨(by decide : (0 : Int) ≤ 5), (by decide : (5 : Int) ≤ 15)⟩ fun B => doA_of fun W G hG tb => gdoA30 hG _ rfl _ fun W' hG' b' =>
    gjump_call hG' _ rfl (.ok (((goOn g iCal).pc + 40) % 4294967296)) (.ok { setr (goOn g iCal) 4 t with pc := ((goOn g iCal).pc + 40) % 4294967296 } (wroteS m t.toNat 4 (goOn g iCal).pc))
      (gtarget_any iCal (.ok 40) (rd_imm B _ m iCal.A rfl (by decide))) (by
      have e : topL (goOn g iCal) = t := h4
      refine ⟨by rw [e], ?_⟩
      rw [e]
      have hp : 0 ≤ (goOn g iCal).pc ∧ (goOn g iCal).pc ≤ 4294967295 := by
        show 0 ≤ (g.pc + 5) % 4294967296 ∧ (g.pc + 5) % 4294967296 ≤ 4294967295
        omega
      have q := wr_mem B (goOn g iCal) m ok (atO t) 4 (goOn g iCal).pc hp rfl (by rw [plO_at _ _ (by omega)]; exact lack_all hr ht (by omega))
      rwa [plO_at _ _ (by omega)] at q)
theorem st_ret (ok : m.ok) (hr : ∀ p, p < 4 → m.r p = 7) {t v : Int} (h4 : g.r 4 = t) (ht : 0 ≤ t ∧ t ≤ 1020) (hv : readL m t.toNat 4 = v) :
    DoR m g iRet { setr (goOn g iRet) 4 (popL g) with pc := v } m :=
  DoR.of isB_ret ⟨(by decide : (0 : Int) ≤ 1), (by decide : (1 : Int) ≤ 15)⟩ fun B => doA_of fun W G hG tb => gdoA31 hG _ rfl _ fun W' hG' b' =>
    gjump_ret hG' _ rfl (.ok v) (by
      have q := rd_mem B (goOn g iRet) m ok (atO t) 4 (q := 4) rfl rfl (by rw [plO_at _ _ (by omega)]; exact lack_all hr ht (by omega))
      rw [plO_at _ _ (by omega), hv] at q
      show RdY B (goOn g iRet) m (atO ((goOn g iRet).r 4)) 4 v
      rw [show (goOn g iRet).r 4 = t from h4]
      exact q)
end
end Go.Proofs.YtcdoidnfdkodoaaGreatDoor
