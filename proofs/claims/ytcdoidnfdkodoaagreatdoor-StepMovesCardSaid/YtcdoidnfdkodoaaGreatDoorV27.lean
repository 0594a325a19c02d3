import Derived.Test.YtcdoidnfdkodoaaGreatDoorS50
namespace Go.Proofs.YtcdoidnfdkodoaaGreatDoor
open Go.RowKit
set_option linter.unusedVariables false
set_option linter.unusedSimpArgs false
set_option linter.unusedSectionVars false
def mV : Mm := mapS Mm.new 0 1 3
theorem mV_ok : mV.ok := mapS_ok new_okM _ _ _
def mW (v : Int) : Mm := wroteS mV 16 4 v
theorem lackV : lackL mV 16 2 4 = none := by kernel_rfl
theorem mW_ok (v : Int) : (mW v).ok := by
  have h := wroteM_ok mV_ok 16 (by decide) 4 v
  have e : wroteM mV 16 4 v = mW v := by
    unfold wroteM
    rw [show numL 4 = 4 from rfl, lackV]
    rfl
  rwa [e] at h
theorem lackW4 (v : Int) : lackL (mW v) 16 1 4 = none := by kernel_rfl
theorem lackW1 (v : Int) : lackL (mW v) 17 1 1 = none := by kernel_rfl
theorem readW1 (v : Int) : readL (mW v) 17 1 = v / 256 % 256 := by
  have h := bytes_there mV 16 4 v 1 (by decide)
  simp only [readL]
  show 0 + (wroteS mV 16 4 v).b (16 + 1) * 1 = _
  rw [h]
  omega
abbrev oM (v : Int) : On := ⟨3, 0, v, -1, -1, 1⟩
abbrev oR (k : Nat) : On := ⟨1, k, 0, 0, 0, 0⟩
abbrev oI (v : Int) : On := ⟨2, 0, v, 0, 0, 0⟩
theorem plO_M (g : Gs) (a : Int) (h : 0 ≤ a ∧ a ≤ 4294967295) : plO g (oM a) = a := plO_at g a h
def iT (v : Int) : In := ⟨1, 0, oM 16, oI v, false, 10⟩
def iU (k : Nat) : In := ⟨1, 0, oR k, oM 16, false, 6⟩
def iW (j : Nat) : In := ⟨36, 0, oR j, oM 17, false, 7⟩
def iX (j : Nat) : In := ⟨37, 0, oR j, oM 17, false, 7⟩
def iY (k j : Nat) : In := ⟨27, 0, oR k, oR j, false, 2⟩
def iZ (k : Nat) (v : Int) : In := ⟨26, 0, oR k, oM v, false, 6⟩
theorem isB_T (v : Int) : isB (iT v) = true := by
  have e : isB (iT v) = takesB (rowN 1) 8 (numA v) := by kernel_rfl
  rw [e]
  unfold numA
  cases v == 128 <;> cases decide (v < 256) <;> decide
theorem isB_U : ∀ k : Nat, k < 8 → isB (iU k) = true := by decide
theorem isB_W : ∀ k : Nat, k < 8 → isB (iW k) = true := by decide
theorem isB_X : ∀ k : Nat, k < 8 → isB (iX k) = true := by decide
theorem isB_Y : ∀ k : Nat, k < 8 → ∀ j : Nat, j < 8 → isB (iY k j) = true := by decide
theorem isB_Z (k : Nat) (hk : k < 8) (v : Int) : isB (iZ k v) = true := by
  rcases (by omega : k = 0 ∨ k = 1 ∨ k = 2 ∨ k = 3 ∨ k = 4 ∨ k = 5 ∨ k = 6 ∨ k = 7) with rfl | rfl | rfl | rfl | rfl | rfl | rfl | rfl <;> kernel_rfl
theorem rd_k (B : Nat) (g : Gs) (m : Mm) (k : Nat) (hk : k < 8) : RdY B g m (oR k) 4 (g.r k) := by
  have q := rd_reg B g m (oR k) rfl
  rwa [show regV g (oR k).r = g.r k from regV_k _ k hk] at q
section
variable {m : Mm} {g : Gs}
theorem mo_T (v : Int) (hv : 0 ≤ v ∧ v ≤ 4294967295) : DoR mV g (iT v) (goOn g (iT v)) (mW v) :=
  DoR.of (isB_T v) ⟨(by decide : (0 : Int) ≤ 10), (by decide : (10 : Int) ≤ 15)⟩ fun B => doA_of fun W G hG tb => gdoA1 hG _ rfl _ fun W' hG' b' =>
    gmv1 hG' _ rfl (.ok v) (.ok (goOn g (iT v)) (mW v)) (rd_imm B _ mV (oI v) rfl hv) (by
      have q := wr_mem B (goOn g (iT v)) mV mV_ok (oM 16) 4 v hv rfl (by rw [plO_M _ _ (by decide)]; exact lackV)
      rw [plO_M _ _ (by decide)] at q
      exact q)
theorem mo_U (v : Int) (hv : 0 ≤ v ∧ v ≤ 4294967295) (k : Nat) (hk : k < 8) : DoR (mW v) g (iU k) (setr (goOn g (iU k)) k v) (mW v) :=
  DoR.of (isB_U k hk) ⟨(by decide : (0 : Int) ≤ 6), (by decide : (6 : Int) ≤ 15)⟩ fun B => doA_of fun W G hG tb => gdoA1 hG _ rfl _ fun W' hG' b' =>
    gmv1 hG' _ rfl (.ok v) (.ok (setr (goOn g (iU k)) k v) (mW v)) (by
      have q := rd_mem B (goOn g (iU k)) (mW v) (mW_ok v) (oM 16) 4 (q := 4) rfl rfl (by rw [plO_M _ _ (by decide)]; exact lackW4 v)
      rw [plO_M _ _ (by decide)] at q
      rw [show readL (mW v) (16 : Int).toNat 4 = v from read_w4 mV 16 v (by omega)] at q
      exact q) (wr_reg B _ (mW v) (oR k) k hk rfl rfl v)
theorem mo_W (v : Int) (hv : 0 ≤ v ∧ v ≤ 4294967295) (k : Nat) (hk : k < 8) : DoR (mW v) g (iW k) (setr (goOn g (iW k)) k (v / 256 % 256)) (mW v) :=
  DoR.of (isB_W k hk) ⟨(by decide : (0 : Int) ≤ 7), (by decide : (7 : Int) ≤ 15)⟩ fun B => doA_of fun W G hG tb => gdoA36 hG _ rfl _ fun W' hG' b' =>
    gmv36 hG' _ rfl (.ok (v / 256 % 256)) (.ok (setr (goOn g (iW k)) k (v / 256 % 256)) (mW v)) (by
      have q := rd_mem B (goOn g (iW k)) (mW v) (mW_ok v) (oM 17) 1 (q := 1) rfl rfl (by rw [plO_M _ _ (by decide)]; exact lackW1 v)
      rw [plO_M _ _ (by decide)] at q
      rw [show readL (mW v) (17 : Int).toNat 1 = v / 256 % 256 from readW1 v] at q
      exact q) (wr_reg B _ (mW v) (oR k) k hk rfl rfl _)
theorem mo_X (v : Int) (hv : 0 ≤ v ∧ v ≤ 4294967295) (k : Nat) (hk : k < 8) : DoR (mW v) g (iX k) (setr (goOn g (iX k)) k (IntKind.i8.wrap (v / 256 % 256) % 4294967296)) (mW v) :=
  DoR.of (isB_X k hk) ⟨(by decide : (0 : Int) ≤ 7), (by decide : (7 : Int) ≤ 15)⟩ fun B => doA_of fun W G hG tb => gdoA37 hG _ rfl _ fun W' hG' b' =>
    gmv37 hG' _ rfl (.ok (v / 256 % 256)) (.ok (setr (goOn g (iX k)) k (IntKind.i8.wrap (v / 256 % 256) % 4294967296)) (mW v)) (by
      have q := rd_mem B (goOn g (iX k)) (mW v) (mW_ok v) (oM 17) 1 (q := 1) rfl rfl (by rw [plO_M _ _ (by decide)]; exact lackW1 v)
      rw [plO_M _ _ (by decide)] at q
      rw [show readL (mW v) (17 : Int).toNat 1 = v / 256 % 256 from readW1 v] at q
      exact q) (wr_reg B _ (mW v) (oR k) k hk rfl rfl _)
theorem mo_Y (ok : m.ok) (k j : Nat) (hk : k < 8) (hj : j < 8) : DoR m g (iY k j) (setr (setr (goOn g (iY k j)) k (g.r j)) j (g.r k)) m :=
  DoR.of (isB_Y k hk j hj) ⟨(by decide : (0 : Int) ≤ 2), (by decide : (2 : Int) ≤ 15)⟩ fun B => doA_of fun W G hG tb => gdoA27 hG _ rfl _ fun W' hG' b' =>
    gmv27 hG' _ rfl (.ok (setr (setr (goOn g (iY k j)) k (g.r j)) j (g.r k)) m) fun W2 hG2 =>
      gexch hG2 (iY k j) (g.r k) (g.r j) (can_o B _ m ok (oR k) rfl) (rd_k B _ m k hk) (rd_k B _ m j hj) (wr_reg B _ m (oR k) k hk rfl rfl _) (wr_reg B _ m (oR j) j hj rfl rfl _)
theorem mo_Z (v : Int) (hv : 0 ≤ v ∧ v ≤ 4294967295) (k : Nat) (hk : k < 8) : DoR m g (iZ k v) (setr (goOn g (iZ k v)) k v) m :=
  DoR.of (isB_Z k hk v) ⟨(by decide : (0 : Int) ≤ 6), (by decide : (6 : Int) ≤ 15)⟩ fun B => doA_of fun W G hG tb => gdoA26 hG _ rfl _ fun W' hG' b' =>
    gmv26 hG' _ rfl (.ok (setr (goOn g (iZ k v)) k v) m) (by
      have q := wr_reg B (goOn g (iZ k v)) m (oR k) k hk rfl rfl v
      show WrY B (goOn g (iZ k v)) m (oR k) 4 (plO (goOn g (iZ k v)) (oM v)) _ m
      rw [plO_M _ _ hv]
      exact q)
end
end Go.Proofs.YtcdoidnfdkodoaaGreatDoor
