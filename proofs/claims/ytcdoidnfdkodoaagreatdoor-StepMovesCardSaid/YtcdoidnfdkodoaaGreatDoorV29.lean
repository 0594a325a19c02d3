import Derived.Test.YtcdoidnfdkodoaaGreatDoorV28
import Derived.Test.YtcdoidnfdkodoaaGreatDoorV26
namespace Go.Proofs.YtcdoidnfdkodoaaGreatDoor
open Go.RowKit
set_option linter.unusedVariables false
set_option linter.unusedSimpArgs false
set_option linter.unusedSectionVars false
theorem and255m (x : Int) (h : 0 ≤ x ∧ x ≤ 4294967295) : bits .and .u32 x 255 = x % 256 := and_mask x 8 h (by decide)
theorem wrap_i8n (n : Int) : IntKind.i8.wrap n = (n + 128) % 256 - 128 := by
  simp [IntKind.wrap, IntKind.bits, IntKind.signed]
  try (split <;> omega)
theorem i8_256 (v : Int) : IntKind.i8.wrap (v / 256) = IntKind.i8.wrap (v / 256 % 256) := by
  rw [wrap_i8n, wrap_i8n]
  omega
theorem i8_bdm (x : Int) : -128 ≤ IntKind.i8.wrap x ∧ IntKind.i8.wrap x ≤ 127 := by
  rw [wrap_i8n]
  omega
theorem moves_all (g : Gs) (ok : g.ok) (v c d : Int) (hv : 0 ≤ v ∧ v ≤ 4294967295) (wc : 0 ≤ c ∧ c ≤ 255) (wd : 0 ≤ d ∧ d ≤ 255) (w : World) (tabs : Tb w) :
    Calls Tryz.prog 10 #[stV g, .int .u32 v, .int .u8 c, .int .u8 d] w fun e w' => e = .returned (.bool true) ∧ Below w.heap.size w w' := by
  obtain ⟨k, ek, hk⟩ : ∃ k : Nat, c % 8 = k ∧ k < 8 := ⟨(c % 8).toNat, by omega, by omega⟩
  obtain ⟨j, ej, hj⟩ : ∃ j : Nat, d % 8 = j ∧ j < 8 := ⟨(d % 8).toNat, by omega, by omega⟩
  have hT := mo_T (g := g) v hv
  have hU := mo_U (g := goOn g (iT v)) v hv k hk
  have hW := mo_W (g := goOn g (iT v)) v hv j hj
  have hX := mo_X (g := goOn g (iT v)) v hv j hj
  have hY := mo_Y (g := setr (goOn (goOn g (iT v)) (iU k)) k v) (mW_ok v) k j hk hj
  have hZ := mo_Z (m := mW v) (g := goOn g (iT v)) v hv k hk
  have ev := i8_256 v
  have bv := i8_bdm (v / 256)
  refine moves_walk g v c d hv wc wd j k hk hj ek ej _ _ _ _ _ _ (IntKind.i8.wrap (v / 256) % 4294967296) (Lib.hid hT) (Lib.hid hU) (Lib.hid hW) (Lib.hid hX) (Lib.hid hY) (Lib.hid hZ) ?_ ?_ ?_ ?_ ?_ ?_ rfl rfl rfl ?_ ?_ ?_ w tabs
  · show (if k = k then v else _) = v
    rw [if_pos rfl]
  · show (if j = j then v / 256 % 256 else _) = _
    rw [if_pos rfl]
  · show (if j = j then IntKind.i8.wrap (v / 256 % 256) % 4294967296 else _) = _
    rw [if_pos rfl, ev]
  · show (if j = j then (if k = k then v else g.r k) else _) = v
    rw [if_pos rfl, if_pos rfl]
  · intro hkj
    show (if k = j then (if k = k then v else g.r k) else if k = k then (if j = k then v else g.r j) else _) = g.r j
    rw [if_neg hkj, if_pos rfl, if_neg (fun e => hkj e.symm)]
  · show (if k = k then v else _) = v
    rw [if_pos rfl]
  · exact and255m (v / 256) (by omega)
  · rw [IntKind.wrap_i32]
    omega
  · rw [IntKind.wrap_u32]
end Go.Proofs.YtcdoidnfdkodoaaGreatDoor
