import Derived.Test.YtcgleggdochbeaaDoorS28
namespace Go.Proofs.YtcgleggdochbeaaDoor
open Go.RowKit
set_option maxRecDepth 100000
set_option linter.unusedVariables false
set_option linter.unusedSimpArgs false
set_option linter.unusedSectionVars false
theorem own_lit (w : World) (i : In) (zs : List Int) (hz : ∀ z ∈ zs, 0 ≤ z ∧ z ≤ 255) (h1 : zs.length ≤ 4) {arr : Array Value} (ha : arr = (zs.map (Value.int .u8)).toArray) {v : Value} (hv : v = .slice (some ⟨w.heap.size + 1, 0, none⟩) zs.length zs.length) :
  Own ((w.alloc (.cells (in16 i) 26)).alloc (.cells arr 5)) w.heap.size v zs ∧ Below w.heap.size w ((w.alloc (.cells (in16 i) 26)).alloc (.cells arr 5)) := by
 have b := (Below.refl w.heap.size w).alloc (Nat.le_refl _) (.cells (in16 i) 26)
 have O := Own.new (w.alloc (.cells (in16 i) 26)) w.heap.size b.size zs hz (by omega) ha
 rw [World.size_alloc] at O
 exact ⟨hv ▸ O, b.alloc b.size _⟩
section
variable (c : Int) (A B : On) (rep : Bool) (l : Int)
theorem fix_44 (w : World) : Calls Tryd.prog 46 #[inV ⟨44, c, A, B, rep, l⟩] w fun e w' => ∃ v, e = .returned v ∧ Own w' w.heap.size v [144] ∧ Below w.heap.size w w' := by
 go_enter Tryd.func46, Tryd.ntmps46
 go_wp2
 go_ret
 exact ⟨_, rfl, own_lit w ⟨44, c, A, B, rep, l⟩ [144] (by simp) (by decide) rfl rfl⟩
theorem fix_38 (w : World) : Calls Tryd.prog 46 #[inV ⟨38, c, A, B, rep, l⟩] w fun e w' => ∃ v, e = .returned v ∧ Own w' w.heap.size v [153] ∧ Below w.heap.size w w' := by
 go_enter Tryd.func46, Tryd.ntmps46
 go_wp2
 go_ret
 exact ⟨_, rfl, own_lit w ⟨38, c, A, B, rep, l⟩ [153] (by simp) (by decide) rfl rfl⟩
theorem fix_31 (w : World) : Calls Tryd.prog 46 #[inV ⟨31, c, A, B, rep, l⟩] w fun e w' => ∃ v, e = .returned v ∧ Own w' w.heap.size v [195] ∧ Below w.heap.size w w' := by
 go_enter Tryd.func46, Tryd.ntmps46
 go_wp2
 go_ret
 exact ⟨_, rfl, own_lit w ⟨31, c, A, B, rep, l⟩ [195] (by simp) (by decide) rfl rfl⟩
theorem fix_39 (w : World) : Calls Tryd.prog 46 #[inV ⟨39, c, A, B, rep, l⟩] w fun e w' => ∃ v, e = .returned v ∧ Own w' w.heap.size v [252] ∧ Below w.heap.size w w' := by
 go_enter Tryd.func46, Tryd.ntmps46
 go_wp2
 go_ret
 exact ⟨_, rfl, own_lit w ⟨39, c, A, B, rep, l⟩ [252] (by simp) (by decide) rfl rfl⟩
theorem fix_40 (w : World) : Calls Tryd.prog 46 #[inV ⟨40, c, A, B, rep, l⟩] w fun e w' => ∃ v, e = .returned v ∧ Own w' w.heap.size v [253] ∧ Below w.heap.size w w' := by
 go_enter Tryd.func46, Tryd.ntmps46
 go_wp2
 go_ret
 exact ⟨_, rfl, own_lit w ⟨40, c, A, B, rep, l⟩ [253] (by simp) (by decide) rfl rfl⟩
theorem fix_43 (w : World) : Calls Tryd.prog 46 #[inV ⟨43, c, A, B, rep, l⟩] w fun e w' => ∃ v, e = .returned v ∧ Own w' w.heap.size v [205, 128] ∧ Below w.heap.size w w' := by
 go_enter Tryd.func46, Tryd.ntmps46
 go_wp2
 go_ret
 exact ⟨_, rfl, own_lit w ⟨43, c, A, B, rep, l⟩ [205, 128] (by simp) (by decide) rfl rfl⟩
theorem fix_51 (w : World) : Calls Tryd.prog 46 #[inV ⟨51, c, A, B, rep, l⟩] w fun e w' => ∃ v, e = .returned v ∧ Own w' w.heap.size v [217, 224] ∧ Below w.heap.size w w' := by
 go_enter Tryd.func46, Tryd.ntmps46
 go_wp2
 go_ret
 exact ⟨_, rfl, own_lit w ⟨51, c, A, B, rep, l⟩ [217, 224] (by simp) (by decide) rfl rfl⟩
theorem fix_52 (w : World) : Calls Tryd.prog 46 #[inV ⟨52, c, A, B, rep, l⟩] w fun e w' => ∃ v, e = .returned v ∧ Own w' w.heap.size v [217, 225] ∧ Below w.heap.size w w' := by
 go_enter Tryd.func46, Tryd.ntmps46
 go_wp2
 go_ret
 exact ⟨_, rfl, own_lit w ⟨52, c, A, B, rep, l⟩ [217, 225] (by simp) (by decide) rfl rfl⟩
end
theorem fix_29 (c : Int) (A B : On) (rep : Bool) (l : Int) (hr : 0 ≤ A.r ∧ A.r < 8) (w : World) : Calls Tryd.prog 46 #[inV ⟨29, c, A, B, rep, l⟩] w fun e w' => ∃ v, e = .returned v ∧ Own w' w.heap.size v [88 + A.r] ∧ Below w.heap.size w w' := by
 have e1 : IntKind.i64.wrap (88 + A.r) = 88 + A.r := by rw [IntKind.wrap_i64]; omega
 have e2 : IntKind.u8.wrap (88 + A.r) = 88 + A.r := by rw [IntKind.wrap_u8]; omega
 go_enter Tryd.func46, Tryd.ntmps46
 go_wp2
 go_ret
 exact ⟨_, rfl, own_lit w ⟨29, c, A, B, rep, l⟩ [88 + A.r] (by simp; omega) (by simp) rfl rfl⟩
theorem fix_41t (c : Int) (A B : On) (l : Int) (w : World) : Calls Tryd.prog 46 #[inV ⟨41, c, A, B, true, l⟩] w fun e w' => ∃ v, e = .returned v ∧ Own w' w.heap.size v [243, 165] ∧ Below w.heap.size w w' := by
 go_enter Tryd.func46, Tryd.ntmps46
 go_wp2
 go_ret
 exact ⟨_, rfl, own_lit w ⟨41, c, A, B, true, l⟩ [243, 165] (by simp) (by decide) rfl rfl⟩
theorem fix_41f (c : Int) (A B : On) (l : Int) (w : World) : Calls Tryd.prog 46 #[inV ⟨41, c, A, B, false, l⟩] w fun e w' => ∃ v, e = .returned v ∧ Own w' w.heap.size v [165] ∧ Below w.heap.size w w' := by
 go_enter Tryd.func46, Tryd.ntmps46
 go_wp2
 go_ret
 exact ⟨_, rfl, own_lit w ⟨41, c, A, B, false, l⟩ [165] (by simp) (by decide) rfl rfl⟩
theorem fix_42t (c : Int) (A B : On) (l : Int) (w : World) : Calls Tryd.prog 46 #[inV ⟨42, c, A, B, true, l⟩] w fun e w' => ∃ v, e = .returned v ∧ Own w' w.heap.size v [243, 171] ∧ Below w.heap.size w w' := by
 go_enter Tryd.func46, Tryd.ntmps46
 go_wp2
 go_ret
 exact ⟨_, rfl, own_lit w ⟨42, c, A, B, true, l⟩ [243, 171] (by simp) (by decide) rfl rfl⟩
theorem fix_42f (c : Int) (A B : On) (l : Int) (w : World) : Calls Tryd.prog 46 #[inV ⟨42, c, A, B, false, l⟩] w fun e w' => ∃ v, e = .returned v ∧ Own w' w.heap.size v [171] ∧ Below w.heap.size w w' := by
 go_enter Tryd.func46, Tryd.ntmps46
 go_wp2
 go_ret
 exact ⟨_, rfl, own_lit w ⟨42, c, A, B, false, l⟩ [171] (by simp) (by decide) rfl rfl⟩
theorem fix_no (k : In) (h1 : (k.op == 44) = false) (h2 : (k.op == 38) = false) (h3 : (k.op == 31) = false) (h4 : (k.op == 39) = false) (h5 : (k.op == 40) = false) (h6 : (k.op == 43) = false) (h7 : (k.op == 51) = false) (h8 : (k.op == 52) = false) (h9 : (k.op == 29) = false) (ha : (k.op == 41) = false) (hb : (k.op == 42) = false) (w : World) :
  Calls Tryd.prog 46 #[inV k] w fun e w' => e = .returned (.slice none 0 0) ∧ Below w.heap.size w w' := by
 have b := (Below.refl w.heap.size w).alloc (Nat.le_refl _) (.cells (in16 k) 26)
 go_enter Tryd.func46, Tryd.ntmps46
 go_wp2
 go_ret
 exact ⟨rfl, b⟩
end Go.Proofs.YtcgleggdochbeaaDoor
