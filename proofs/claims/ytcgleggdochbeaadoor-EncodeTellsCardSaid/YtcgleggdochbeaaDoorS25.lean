import Derived.Test.YtcgleggdochbeaaDoorS24
import Derived.Defers
import Derived.Recover
import Derived.Laws.Pointers
namespace Go.Proofs.YtcgleggdochbeaaDoor
open Go.RowKit
set_option maxRecDepth 100000
set_option maxHeartbeats 8000000
set_option linter.unusedVariables false
set_option linter.unusedSimpArgs false
set_option linter.unusedSectionVars false
theorem assert_yes (n : Int) (w : World) : (Instr.typeAssert (.iface 29 (.int .i64 n)) 20 29 true).run Tryd.prog w = .ok (.tuple #[.int .i64 n, .bool true]) w := by kernel_rfl
theorem assert_no (w : World) : (Instr.typeAssert .nilIface 20 29 true).run Tryd.prog w = .ok (.tuple #[.int .i64 0, .bool false]) w := by kernel_rfl
theorem rep15 : Array.replicate 15 undef = #[undef, undef, undef, undef, undef, undef, undef, undef, undef, undef, undef, undef, undef, undef, undef] := rfl
abbrev bp (K : Nat) : Value := .pointer (some ⟨K, 0, none⟩)
/-- What is deferred, where reading panics with an error. -/
theorem catch_err {K L : Nat} {w : World} {cs : Array Value} (n : Int) (m : Int) (kK : Blk w K 26 cs) (hz : cs.size = 16) (kL : Blk w L 29 #[.int .i64 m]) (hKL : K ≠ L) (older : List PanicEntry) :
  CallsD Tryd.prog 55 #[bp K, bp L] (.panicking ({ v := .iface 29 (.int .i64 n), recovered := false } :: older)) w fun e u' w' =>
   e = .returned (.tuple #[]) ∧ u' = .panicking ({ v := .iface 29 (.int .i64 n), recovered := true } :: older) ∧
   Blk w' K 26 z16 ∧ Blk w' L 29 #[.int .i64 n] ∧ But [K, L] w.heap.size w w' := by
 have hay := assert_yes n
 have Kl := kK.lt
 have Ll := kL.lt
 have cL := kL.cell (i := 0) (v := .int .i64 m) rfl
 have fL := kL.fr 0
 refine callsD_of_wpS Tryd.func55 rfl fun c₀ cst hu => ?_
 apply wpS_seq
 apply wpS_region
 simp [wpOpsS, go_sem, recoverD, hu, Tryd.ntmps55, Exit.thenS, rep15]
 refine wpS_of_wp ?_
 go_wp2_with ((with_reducible refine store_inR rfl _ _ rfl K z16 _ rfl rfl kK z16_size hz z16_one ?_); intro W1 z1 k1 s1; have kL1 := kL.but k1 kL.lt (by simp; omega); have cL := kL1.cell (i := 0) (v := .int .i64 m) rfl; have fL := kL1.fr 0)
 have zK := z1.other 0 (.int .i64 n) hKL
 have zL : Blk (W1.setCell ⟨L, 0, none⟩ (.int .i64 n)) L 29 #[.int .i64 n] := kL1.set 0 (.int .i64 n)
 have kx : But [K, L] w.heap.size w (W1.setCell ⟨L, 0, none⟩ (.int .i64 n)) := (k1.mono (Nat.le_refl _) (fun x hx => .inl (by simp at hx ⊢; omega))).setCell (by simp) _
 generalize W1.setCell ⟨L, 0, none⟩ (.int .i64 n) = w' at *
 simp [bodyPostS, results, Tryd.results55, zK, zL, kx]
theorem catch_idle (K L : Nat) (w : World) :
  CallsD Tryd.prog 55 #[bp K, bp L] .returning w fun e u' w' => e = .returned (.tuple #[]) ∧ u' = .returning ∧ Below w.heap.size w w' := by
 have hay := assert_no
 refine callsD_of_wpS Tryd.func55 rfl fun c₀ cst hu => ?_
 apply wpS_seq
 apply wpS_region
 simp [wpOpsS, go_sem, recoverD, hu, Tryd.ntmps55, Exit.thenS, rep15]
 refine wpS_of_wp ?_
 go_wp2_with fail
 simp [bodyPostS, results, Tryd.results55, hu, Below.refl]
 try (cases c₀; simp_all)
structure RG (w W : World) (cs : Array Value) (n : Int) : Prop where
 kK : Blk W w.heap.size 26 cs
 hz : cs.size = 16
 kL : Blk W (w.heap.size + 1) 29 #[.int .i64 n]
 k : Below w.heap.size w W
theorem RG.but {w W W' : World} {cs : Array Value} {n : Int} (h : RG w W cs n) {S : List Nat} (k : But S W.heap.size W W') (hS : ∀ x, x ∈ S → w.heap.size + 1 < x) : RG w W' cs n := by
 have hl := h.kL.lt
 exact ⟨h.kK.but k (by omega) (fun hm => by have := hS _ hm; omega), h.hz, h.kL.but k hl (fun hm => by have := hS _ hm; omega), h.k.trans (k.below h.k.size (fun x hx => by have := hS _ hx; omega))⟩
theorem RG.below {w W W' : World} {cs : Array Value} {n : Int} (h : RG w W cs n) (k : Below W.heap.size W W') : RG w W' cs n := h.but (But.of k []) (by simp)
theorem results_cc {P : Program} {fn : Func} {p q : Tmp} {ty tq : TypeId} (h : fn.results = #[.cell p ty, .cell q tq]) (tmps : Array Value) (w : World) (g : Nat) (t : TypeId) (cs : Array Value) (fr : Nat × Nat) (d : TypeDesc) (g2 : Nat) (v : Value)
  (hp : tmps[p]? = some (.pointer (some ⟨g, 0, none⟩))) (hq : tmps[q]? = some (.pointer (some ⟨g2, 0, none⟩))) (hg : w.heap[g]? = some (.cells cs t fr)) (hv : ∀ w : World, w.cell? ⟨g2, 0, none⟩ = some v → (loadVar tq ⟨g2, 0, none⟩).run P w = .ok v w) (hc : w.cell? ⟨g2, 0, none⟩ = some v)
  (hu : P.underlying ty = some d) (hd : (match d with | .struct _ | .array _ _ => true | _ => false) = true) (hi : (P.info? ty).map (·.size) = some cs.size) :
  (results fn tmps).run P w = .ok (.tuple #[.agg cs, v]) w := by
 simp [results, h, hp, hq, asAddr, run_loadVar_row w g t ty cs fr d hg hu hd hi, hv w hc]
theorem load_errno (K : Nat) (n : Int) (w : World) (h : w.cell? ⟨K, 0, none⟩ = some (.int .i64 n)) : (loadVar 29 ⟨K, 0, none⟩).run Tryd.prog w = .ok (.int .i64 n) w := by
 simp [go_sem, h]
abbrev caughtBy (K : Nat) : List Deferred := [{ target := .fn (.func 55) #[bp K, bp (K + 1)], args := #[] }]
theorem RG.told {w W : World} {cs : Array Value} {n : Int} (h : RG w W cs n) {tm : Array Value} (h2 : tm[2]? = some (bp w.heap.size)) (h3 : tm[3]? = some (bp (w.heap.size + 1))) :
  (results Tryd.f24 tm).run Tryd.prog W = .ok (.tuple #[.agg cs, .int .i64 n]) W :=
 results_cc rfl tm W w.heap.size 26 cs (0, 0) _ (w.heap.size + 1) (.int .i64 n) h2 h3 h.kK.h (fun w hw => load_errno _ _ w hw) (h.kL.cell rfl) Tryd.underlying26 rfl ((szIn inZ).trans (congrArg some h.hz.symm))
theorem read_caught {w W : World} {cs : Array Value} {n x : Int} (h : RG w W cs n) {tm : Array Value} (h2 : tm[2]? = some (bp w.heap.size)) (h3 : tm[3]? = some (bp (w.heap.size + 1)))
  {R : Ending → World → Prop} (hR : ∀ W', Below w.heap.size w W' → R (.returned (.tuple #[inV inZ, .int .i64 x])) W') :
  Leaves Tryd.prog Tryd.f24 tm R (caughtBy w.heap.size) (.panicking (errP x)) W := by
 refine leaves_cons (f := 55) (args := #[bp w.heap.size, bp (w.heap.size + 1)]) (by simp) (by simp [go_sem]) ?_
 refine (catch_err x n h.kK h.hz h.kL (by omega) []).mono ?_
 rintro e u' W' ⟨rfl, rfl, zK, zL, kx⟩
 have G : RG w W' z16 x := ⟨zK, z16_size, zL, h.k.trans (kx.below h.k.size (by simp))⟩
 exact ⟨_, G.told h2 h3, hR W' G.k⟩
theorem read_left {w W : World} {i : In} (h : RG w W (in16 i) 0) {tm : Array Value} (h2 : tm[2]? = some (bp w.heap.size)) (h3 : tm[3]? = some (bp (w.heap.size + 1)))
  {R : Ending → World → Prop} (hR : ∀ W', Below w.heap.size w W' → R (.returned (.tuple #[inV i, .int .i64 0])) W') :
  Leaves Tryd.prog Tryd.f24 tm R (caughtBy w.heap.size) .returning W := by
 refine leaves_cons (f := 55) (args := #[bp w.heap.size, bp (w.heap.size + 1)]) (by simp) (by simp [go_sem]) ?_
 refine (catch_idle w.heap.size (w.heap.size + 1) W).mono ?_
 rintro e u' W' ⟨rfl, rfl, bx⟩
 have G := h.below bx
 exact ⟨_, G.told h2 h3, hR W' G.k⟩
end Go.Proofs.YtcgleggdochbeaaDoor
