/- Bytes decoded; the kind of the fault that they are. -/
import Derived.Test.YtbfkgakkkibejaaDoorP15
namespace Go.Proofs.YtbfkgakkkibejaaDoor
open Go.RowKit
set_option linter.unusedVariables false
set_option linter.unusedSimpArgs false
set_option linter.unusedSectionVars false

/-- A list of bytes as an argument. -/
structure Ba (w : World) (a : Option Addr) (len cap : Nat) (zs : List Int) : Prop where
  row : Row8 w a len zs
  lc : len ≤ cap
  cm : cap ≤ 9223372036854775807
  nn : a = none → cap = 0
theorem Ba.below {w w' : World} {a : Option Addr} {len cap : Nat} {zs : List Int} (h : Ba w a len cap zs) (b : Below w.heap.size w w') : Ba w' a len cap zs := ⟨h.row.below b, h.lc, h.cm, h.nn⟩
abbrev zRd : Array Value := #[.slice none 0 0, .int .i64 0, .int .u32 0, .int .u32 0]
theorem store_rd_as {ops : Array Oper} {rest : List Oper} {o : Oper} {a : Act} {w0 : World} {Q : Exit → Act → World → Prop} (hgd : o.guard = none) (x y : Operand) (ho : o.op = .store 83 x y)
    (s : Option Addr) (len cap : Nat) (hx : a.eval x = .pointer (some ⟨w0.heap.size, 0, none⟩)) (hy : a.eval y = rdV s len cap 0 0 0)
    (h : ∀ W, Blk W w0.heap.size 83 #[.slice s len cap, .int .i64 0, .int .u32 0, .int .u32 0] → Below w0.heap.size w0 W → wpList Tryd.prog ops Q rest (a.put o.dst undef) W) :
    wpList Tryd.prog ops Q (o :: rest) a (w0.alloc (.cells zRd 83)) := by
  refine wpList_store_row hgd 83 x y ho w0.heap.size #[.slice s len cap, .int .i64 0, .int .u32 0, .int .u32 0] hx hy 83 zRd (alloc_new _ _) (szRd s len cap 0 0 0) rfl (by simp [Value.oneCell']) ?_
  exact h _ ((Blk.new w0 83 zRd).row _) (below_rowNew ((Below.refl _ _).alloc (Nat.le_refl _) _) (Nat.le_refl _) _)
theorem RG.start (w : World) : RG w ((w.alloc (.cells z16 26)).alloc (.cells #[.int .i64 0] 29)) z16 0 := by
  have kK := (Blk.new w 26 z16).alloc (.cells #[.int .i64 0] 29)
  have kL := Blk.new (w.alloc (.cells z16 26)) 29 #[.int .i64 0]
  rw [show (w.alloc (.cells z16 26)).heap.size = w.heap.size + 1 by simp] at kL
  exact ⟨kK, z16_size, kL, ((Below.refl _ _).alloc (Nat.le_refl _) _).alloc (by simp) _⟩
theorem Row8.n {w : World} {a : Option Addr} {len : Nat} {zs : List Int} (h : Row8 w a len zs) : RowN w w.heap.size a len zs := h
section
variable {w : World} {a : Option Addr} {len cap : Nat} {zs : List Int}
set_option maxRecDepth 20000 in
theorem read_any (A : Ba w a len cap zs) (tabs : Tabs w) :
    Calls Tryd.prog 24 #[.slice a len cap] w fun e w' => e = .returned (.tuple #[inV (decI zs), .int .i64 (decE zs)]) ∧ Below w.heap.size w w' := by
  have hmf : ∀ (fn : Fn) (first cap : Array Value) (w : World), (Instr.makeFunc fn first cap).run Tryd.prog w = .ok (.func fn first cap) w := fun _ _ _ _ => rfl
  have G := RG.start w
  have hI := Lib.hid (fun W B (G : Below w.heap.size w W) (R : Rd W w.heap.size B a len cap zs 0 0 0) => instruction_any tabs G R)
  have hrow := A.row
  have hlc := A.lc
  have hcm := A.cm
  unfold decI decE
  have H1 := G.kK.lt
  have H2 := G.kL.lt
  cases hd : decM zs with
  | error x =>
    rw [hd] at hI
    simp only [endM] at hI
    go_enter_defers Tryd.func24, Tryd.ntmps24
    go_upto_region 2 with fail
    generalize (w.alloc (.cells z16 26)).alloc (.cells #[.int .i64 0] 29) = w1 at *
    go_upto_region 3 with ((with_reducible refine store_rd_as rfl _ _ rfl a len cap rfl rfl ?_); intro W2 kR b2)
    have G2 := G.below b2
    have hB : w.heap.size + 1 < w1.heap.size := H2
    have R2 : Rd W2 w.heap.size w1.heap.size a len cap zs 0 0 0 := ⟨kR, hrow.n.but (But.of G2.k []) (Nat.le_refl _) (by simp), by omega, hlc, hcm, Nat.zero_le _, by decide, by decide⟩
    go_wp2_with ((with_reducible refine (hI.out _ _ G2.k R2).mono ?_); rintro e W3 ⟨rfl, b3⟩)
    have G3 := G2.but b3 (by simpa using hB)
    exact read_caught G3 rfl rfl (fun W' k => ⟨rfl, k⟩)
  | ok i =>
    rw [hd] at hI
    simp only [endM] at hI
    go_enter_defers Tryd.func24, Tryd.ntmps24
    go_upto_region 2 with fail
    generalize (w.alloc (.cells z16 26)).alloc (.cells #[.int .i64 0] 29) = w1 at *
    go_upto_region 3 with ((with_reducible refine store_rd_as rfl _ _ rfl a len cap rfl rfl ?_); intro W2 kR b2)
    have G2 := G.below b2
    have hB : w.heap.size + 1 < w1.heap.size := H2
    have R2 : Rd W2 w.heap.size w1.heap.size a len cap zs 0 0 0 := ⟨kR, hrow.n.but (But.of G2.k []) (Nat.le_refl _) (by simp), by omega, hlc, hcm, Nat.zero_le _, by decide, by decide⟩
    go_wp2_with (first | ((with_reducible refine (hI.out _ _ G2.k R2).mono ?_); rintro e W3 ⟨rfl, b3⟩; have G3 := G2.but b3 (by simpa using hB)) | ((with_reducible refine store_inR rfl _ _ rfl w.heap.size (in16 i) z16 rfl rfl G3.kK (in16_size _) z16_size (in16_one _) ?_); intro W4 k4 b4 s4; have kL4 := G3.kL.but b4 G3.kL.lt (by simp); have cL := kL4.cell (i := 0) (v := .int .i64 0) rfl; have fL := kL4.fr 0))
    have G4 : RG w (W4.setCell ⟨w.heap.size + 1, 0, none⟩ (.int .i64 0)) (in16 i) 0 :=
      ⟨k4.other 0 _ (by omega), in16_size i, kL4.set 0 (.int .i64 0), (G3.k.trans (b4.below G3.k.size (by simp))).trans ((But.cell1 W4 (w.heap.size + 1) 0 (.int .i64 0)).below (by rw [s4]; exact G3.k.size) (by simp))⟩
    exact read_left G4 rfl rfl (fun W' k => ⟨rfl, k⟩)
/-- Where a call tells an instruction and more. -/
structure DG (w W : World) (cs : Array Value) (D : Nat) (i : In) : Prop where
  z : Blk W w.heap.size 26 cs
  hz : cs.size = 16
  d : Blk W D 26 (in16 i)
  hD : w.heap.size < D
  k : Below w.heap.size w W
theorem results_ctt {P : Program} {fn : Func} {p q r : Tmp} {ty : TypeId} (h : fn.results = #[.cell p ty, .tmp q, .tmp r]) (tmps : Array Value) (w : World) (g : Nat) (t : TypeId) (cs : Array Value) (fr : Nat × Nat) (d : TypeDesc) (v u : Value)
    (hp : tmps.getD p undef = .pointer (some ⟨g, 0, none⟩)) (hv : tmps.getD q undef = v) (hu2 : tmps.getD r undef = u) (hg : w.heap[g]? = some (.cells cs t fr))
    (hu : P.underlying ty = some d) (hd : (match d with | .struct _ | .array _ _ => true | _ => false) = true) (hi : (P.info? ty).map (·.size) = some cs.size) :
    (results fn tmps).run P w = .ok (.tuple #[.agg cs, v, u]) w := by
  have hp' : tmps[p]?.getD undef = .pointer (some ⟨g, 0, none⟩) := by simpa using hp
  have hv' : tmps[q]?.getD undef = v := by simpa using hv
  have hu' : tmps[r]?.getD undef = u := by simpa using hu2
  simp [results, h, hp', hv', hu', asAddr, run_loadVar_row w g t ty cs fr d hg hu hd hi]
set_option maxRecDepth 20000 in
theorem Decode_any (A : Ba w a len cap zs) (tabs : Tabs w) :
    Calls Tryd.prog 12 #[.slice a len cap] w fun e w' => e = .returned (.tuple #[inV (decI zs), .int .i64 (decI zs).len, .int .i64 (decE zs)]) ∧ Below w.heap.size w w' := by
  have k1 := (Below.refl w.heap.size w).alloc (Nat.le_refl _) (.cells z16 26)
  have hR := Lib.hid (read_any (A.below k1) (tabs.below k1))
  have kZ := Blk.new w 26 z16
  have H1 : w.heap.size < (w.alloc (.cells z16 26)).heap.size := by simp
  generalize decI zs = i at *
  generalize decE zs = x at *
  go_enter Tryd.func12, Tryd.ntmps12
  go_upto_region 1 with fail
  generalize w.alloc (.cells z16 26) = w1 at *
  go_upto_region 2 with (first | ((with_reducible refine hR.out.mono ?_); rintro e W2 ⟨rfl, b2⟩) | ((with_reducible refine store_in_as rfl _ _ rfl (in16 i) (in16_size _) (in16_one _) rfl rfl ?_); intro W3 kI b3))
  have kZ2 := kZ.below b2 kZ.lt
  have G : DG w W3 z16 W2.heap.size i := ⟨kZ2.below b3 kZ2.lt, z16_size, kI, kZ2.lt, (k1.trans (b2.mono k1.size)).trans (b3.mono (Nat.le_trans k1.size b2.size))⟩
  generalize W2.heap.size = D at *
  refine wp_region_held_drew (S := fun W => ∃ cs, DG w W cs D i) (by kernel_rfl) ⟨z16, ⟨G.z.drew, G.hz, G.d.drew, G.hD, ⟨G.k.os, G.k.tape, G.k.output, G.k.size, G.k.block⟩⟩⟩ (fun hH0 => ?_)
  refine wpAnyH_take (i := 0) (v := inV i) rfl (by kernel_rfl) (by kernel_rfl) (by kernel_rfl) (fun _ _ _ h => h) (Or.inl ⟨by kernel_rfl, ?_⟩) hH0 ?_
  · intro W hS
    obtain ⟨cs, hS⟩ := hS
    exact run_load_row (by rfl) (by rfl) 26 _ (0, 0) _ hS.d.h Tryd.underlying26 rfl (szIn i)
  try simp only [Act.put, List.setIfInBounds_toArray, List.set_cons_zero, List.set_cons_succ, List.getElem_toArray, List.getElem_cons_succ, List.getElem_cons_zero]
  refine wpAnyH_take (i := 1) (v := .pointer (some ⟨D, 15, none⟩)) rfl (by kernel_rfl) (by kernel_rfl) (by kernel_rfl) (fun _ _ _ h => h) (Or.inl ⟨by kernel_rfl, ?_⟩) hH0 ?_
  · intro W hS
    go_simp
  try simp only [Act.put, List.setIfInBounds_toArray, List.set_cons_zero, List.set_cons_succ, List.getElem_toArray, List.getElem_cons_succ, List.getElem_cons_zero]
  refine wpAnyH_take (i := 2) (v := .int .i64 i.len) rfl (by kernel_rfl) (by kernel_rfl) (by kernel_rfl) (fun _ _ _ h => h) (Or.inl ⟨by kernel_rfl, ?_⟩) hH0 ?_
  · intro W hS
    obtain ⟨cs, hS⟩ := hS
    have d15 := hS.d.cell (i := 15) (v := .int .i64 i.len) rfl
    go_simp
  try simp only [Act.put, List.setIfInBounds_toArray, List.set_cons_zero, List.set_cons_succ, List.getElem_toArray, List.getElem_cons_succ, List.getElem_cons_zero]
  refine wpAnyH_take (i := 3) (v := .int .i64 x) rfl (by kernel_rfl) (by kernel_rfl) (by kernel_rfl) (fun _ _ _ h => h) (Or.inl ⟨by kernel_rfl, ?_⟩) hH0 ?_
  · intro W hS
    go_simp
  try simp only [Act.put, List.setIfInBounds_toArray, List.set_cons_zero, List.set_cons_succ, List.getElem_toArray, List.getElem_cons_succ, List.getElem_cons_zero]
  refine wpAnyH_ready (rs := [4]) (by kernel_rfl) (by simp) ?_
  refine AllReadyH.cons rfl (fun K hK => ?_) AllReadyH.nil
  rw [if_pos (by kernel_rfl)]
  obtain ⟨cs, G0⟩ := hH0
  have hD := G0.hD
  refine wp_store_row 26 _ _ rfl w.heap.size (in16 i) rfl rfl 26 cs G0.z.h (szIn i) G0.hz (in16_one i) ?_
  have G1 : DG w _ (in16 i) D i := ⟨G0.z.row (in16 i), in16_size i, G0.d.rowOther (in16 i) (by omega), G0.hD, below_rowNew G0.k (Nat.le_refl _) (in16 i)⟩
  refine hK.out _ _ ⟨_, G1⟩ (fun _ => ?_)
  clear hK K
  try simp only [Act.put, List.setIfInBounds_toArray, List.set_cons_zero, List.set_cons_succ, List.getElem_toArray, List.getElem_cons_succ, List.getElem_cons_zero]
  refine wpAnyH_take (i := 5) (v := .int .i64 i.len) rfl (by kernel_rfl) (by kernel_rfl) (by kernel_rfl) (fun _ _ _ h => h) (Or.inl ⟨by kernel_rfl, ?_⟩) ⟨_, G1⟩ ?_
  · intro W hS
    go_simp
  try simp only [Act.put, List.setIfInBounds_toArray, List.set_cons_zero, List.set_cons_succ, List.getElem_toArray, List.getElem_cons_succ, List.getElem_cons_zero]
  refine wpAnyH_take (i := 6) (v := .int .i64 x) rfl (by kernel_rfl) (by kernel_rfl) (by kernel_rfl) (fun _ _ _ h => h) (Or.inl ⟨by kernel_rfl, ?_⟩) ⟨_, G1⟩ ?_
  · intro W hS
    go_simp
  try simp only [Act.put, List.setIfInBounds_toArray, List.set_cons_zero, List.set_cons_succ, List.getElem_toArray, List.getElem_cons_succ, List.getElem_cons_zero]
  refine wpAnyH_done (by kernel_rfl) ?_ _
  go_wp2_with fail
  exact bodyPost_ret (v := .tuple #[inV i, .int .i64 i.len, .int .i64 x]) (results_ctt rfl _ _ w.heap.size 26 (in16 i) (0, 0) _ _ _ rfl rfl rfl G1.z.h Tryd.underlying26 rfl (szIn i)) rfl ⟨rfl, G1.k⟩
end
end Go.Proofs.YtbfkgakkkibejaaDoor
