/- A step: what is deferred; a step that goes on, a step that stops. -/
import Derived.Test.YtcddhlepkmbkcaaDoorD1
import Derived.Defers
import Derived.Recover
import Derived.Laws.Pointers
import Derived.Deep.RegionHeld3
import Derived.Deep.RegionWith
namespace Go.Proofs.YtcddhlepkmbkcaaDoor
open Go.RowKit
set_option linter.unusedVariables false
set_option linter.unusedSimpArgs false
set_option linter.unusedSectionVars false

theorem HAt.other {w : World} {B K i : Nat} {s : St} (h : HAt w B s) (hne : B ≠ K) {v : Value} : HAt (w.setCell ⟨K, i, none⟩ v) B s := by
  obtain ⟨cs, hc, hcs⟩ := h.blk
  exact ⟨h.gl, ⟨cs, (Below.heap_setCell _ _ _ _ (by simpa using hne)).trans hc, hcs⟩, h.ok⟩
theorem assert_yes (k a : Int) (w : World) : (Instr.typeAssert (.iface 76 (.agg #[.int .i64 k, .int .u32 a])) 20 76 true).run Tryd.prog w = .ok (.tuple #[.agg #[.int .i64 k, .int .u32 a], .bool true]) w := by kernel_rfl
theorem assert_no (w : World) : (Instr.typeAssert .nilIface 20 76 true).run Tryd.prog w = .ok (.tuple #[.agg #[.int .i64 0, .int .u32 0], .bool false]) w := by kernel_rfl
theorem rep20 : Array.replicate 20 undef = #[undef, undef, undef, undef, undef, undef, undef, undef, undef, undef, undef, undef, undef, undef, undef, undef, undef, undef, undef, undef] := rfl
set_option maxRecDepth 20000 in
/-- What is deferred, where the step panics with a halt. -/
theorem catch_halt {B K L : Nat} {s : St} {w : World} (k a : Int) (ha : 0 ≤ a ∧ a ≤ 4294967295) (h : HAt w B s) (hBK : B ≠ K) (hBL : B ≠ L) (x : Int)
    (hK : w.cell? ⟨K, 0, none⟩ = some (.int .i64 x)) (hKf : w.frozen? ⟨K, 0, none⟩ = false) (hL : w.cell? ⟨L, 0, none⟩ = some (hp B)) (hKL : K ≠ L) (older : List PanicEntry) :
    CallsD Tryd.prog 38 #[.pointer (some ⟨K, 0, none⟩), .pointer (some ⟨L, 0, none⟩)] (.panicking ({ v := .iface 76 (.agg #[.int .i64 k, .int .u32 a]), recovered := false } :: older)) w fun e u' w' =>
      e = .returned (.tuple #[]) ∧ u' = .panicking ({ v := .iface 76 (.agg #[.int .i64 k, .int .u32 a]), recovered := true } :: older) ∧
      HAt w' B { s with why := a } ∧ w'.cell? ⟨K, 0, none⟩ = some (.int .i64 k) ∧ But [B, K] w.heap.size w w' := by
  have hc := h.why
  have hf := h.fr 33
  have hB := h.lt
  have hay := assert_yes k a
  have Kl : K < w.heap.size := size_of_cell hK
  have Ll : L < w.heap.size := size_of_cell hL
  have hne : ¬ w.heap.size = K := by omega
  have hne2 : ¬ w.heap.size = L := by omega
  have hne3 : ¬ w.heap.size = B := by omega
  refine callsD_of_wpS Tryd.func38 rfl fun c₀ cs hu => ?_
  apply wpS_seq
  apply wpS_region
  simp [wpOpsS, go_sem, recoverD, hu, Tryd.ntmps38, Exit.thenS, rep20]
  refine wpS_of_wp ?_
  go_wp2_with fail
  go_region
  go_wp2_with fail
  have hx : HAt ((((w.setCell ⟨K, 0, none⟩ (.int .i64 k)).setCell ⟨B, 33, none⟩ (.int .u32 a)).alloc (.cells #[.int .i64 k, .int .u32 a] 76)).drew) B { s with why := a } := (((h.other hBK).set_why ha).alloc _).drew
  have kx : But [B, K] w.heap.size w ((((w.setCell ⟨K, 0, none⟩ (.int .i64 k)).setCell ⟨B, 33, none⟩ (.int .u32 a)).alloc (.cells #[.int .i64 k, .int .u32 a] 76)).drew) := ((((But.refl _ _ _).setCell (by simp) _).setCell (by simp) _).alloc (by simp [World.setCell]) _).drew
  have cx : ((((w.setCell ⟨K, 0, none⟩ (.int .i64 k)).setCell ⟨B, 33, none⟩ (.int .u32 a)).alloc (.cells #[.int .i64 k, .int .u32 a] 76)).drew).cell? ⟨K, 0, none⟩ = some (.int .i64 k) := by
    rw [World.cell?_drew, World.cell?_alloc_lt _ _ _ (by simp [World.setCell]; exact Kl)]
    simp [go_sem, hK, hBK, Ne.symm hBK]
  generalize (((w.setCell ⟨K, 0, none⟩ (.int .i64 k)).setCell ⟨B, 33, none⟩ (.int .u32 a)).alloc (.cells #[.int .i64 k, .int .u32 a] 76)).drew = w' at *
  simp [bodyPostS, results, Tryd.results38, hx, kx, cx]
/-- What is deferred, where nothing panics. -/
theorem catch_idle (K L : Nat) (w : World) :
    CallsD Tryd.prog 38 #[.pointer (some ⟨K, 0, none⟩), .pointer (some ⟨L, 0, none⟩)] .returning w fun e u' w' => e = .returned (.tuple #[]) ∧ u' = .returning ∧ Below w.heap.size w w' := by
  have hay := assert_no
  refine callsD_of_wpS Tryd.func38 rfl fun c₀ cs hu => ?_
  apply wpS_seq
  apply wpS_region
  simp [wpOpsS, go_sem, recoverD, hu, Tryd.ntmps38, Exit.thenS, rep20]
  refine wpS_of_wp ?_
  go_wp2_with fail
  have kx : Below w.heap.size w (w.alloc (.cells #[.int .i64 0, .int .u32 0] 76)) := (Below.refl _ _).alloc (Nat.le_refl _) _
  simp [bodyPostS, results, Tryd.results38, hu, kx]
  cases c₀
  simp_all
abbrev begun (w : World) (B : Nat) : World := ((w.alloc (.cells #[hp B] 29)).alloc (.cells #[.int .i64 0] 3)).drew
structure Begun (w W : World) (B : Nat) (s : St) : Prop where
  h : HAt W B s
  k : But [B] w.heap.size w W
  cK : W.cell? ⟨w.heap.size + 1, 0, none⟩ = some (.int .i64 0)
  fK : W.frozen? ⟨w.heap.size + 1, 0, none⟩ = false
  cL : W.cell? ⟨w.heap.size, 0, none⟩ = some (hp B)
theorem Begun.of {w : World} {B : Nat} {s : St} (h : HAt w B s) : Begun w (begun w B) B s :=
  ⟨((h.alloc _).alloc _).drew, (((But.refl _ _ _).alloc (Nat.le_refl _) _).alloc (by simp) _).drew, by simp [begun, go_sem], by simp [begun, go_sem], by simp [begun, go_sem]⟩
theorem Begun.alloc {w W : World} {B : Nat} {s : St} (h : Begun w W B s) (o : Obj) : Begun w (W.alloc o) B s := by
  have hz := size_of_cell h.cK
  have h1 := Below.cell ((Below.refl W.heap.size W).alloc (Nat.le_refl _) o) (p := ⟨w.heap.size + 1, 0, none⟩) hz
  have h2 := Below.cell ((Below.refl W.heap.size W).alloc (Nat.le_refl _) o) (p := ⟨w.heap.size, 0, none⟩) (show w.heap.size < _ by omega)
  exact ⟨h.h.alloc _, h.k.alloc (by omega) _, h1.trans h.cK, (Below.frozen ((Below.refl W.heap.size W).alloc (Nat.le_refl _) o) (p := ⟨w.heap.size + 1, 0, none⟩) hz).trans h.fK, h2.trans h.cL⟩
theorem Begun.below {w W W' : World} {B : Nat} {s : St} (h : Begun w W B s) (b : Below W.heap.size W W') : Begun w W' B s := by
  have hz := size_of_cell h.cK
  exact ⟨h.h.below b h.h.lt, h.k.trans (But.of (b.mono h.k.size) _), (b.cell (p := ⟨w.heap.size + 1, 0, none⟩) hz).trans h.cK, (b.frozen (p := ⟨w.heap.size + 1, 0, none⟩) hz).trans h.fK, (b.cell (p := ⟨w.heap.size, 0, none⟩) (show w.heap.size < _ by omega)).trans h.cL⟩
theorem Begun.S {w W : World} {B : Nat} {s : St} (h : Begun w W B s) : W.cell? ⟨w.heap.size, 0, none⟩ = some (hp B) ∧ W.cell? ⟨B, 32, none⟩ = some (.int .u32 s.pc) ∧ Begun w W B s := ⟨h.cL, h.h.pc, h⟩
theorem res_slot (t : Array Value) (i : Nat) (hi : i ≠ 2) (v : Value) : results Tryd.f15 (t.setIfInBounds i v) = results Tryd.f15 t := by
  simp [results, Tryd.results15, Array.getElem?_setIfInBounds, hi]
theorem leaves_slot {t : Array Value} {R : Ending → World → Prop} (i : Nat) (hi : i ≠ 2) (v : Value) : ∀ (ds : List Deferred) (u : FrameMode) (w : World),
    Leaves Tryd.prog Tryd.f15 (t.setIfInBounds i v) R ds u w → Leaves Tryd.prog Tryd.f15 t R ds u w := by
  intro ds
  induction ds with
  | nil =>
    intro u w h
    cases u with
    | returning => unfold Leaves at h ⊢; rw [res_slot _ _ hi] at h; exact h
    | panicking c => exact h
    | run => exact h
  | cons d ds ih =>
    intro u w h
    obtain ⟨h1, fv, cap, f, args, h2, h3, h4⟩ := h
    refine ⟨h1, fv, cap, f, args, h2, h3, h4.mono ?_⟩
    intro e u' w' h
    cases e with
    | returned x => exact ih _ _ h
    | panicked c => exact ih _ _ h
    | outgrown => exact h
theorem post_slot {R : Ending → World → Prop} {K : Act → World → Prop} (i : Nat) (hi : i ≠ 2) (v : Value) (c : List PanicEntry) (a : Act) (w : World)
    (h : Exit.then K (bodyPostD Tryd.prog Tryd.f15 R) (.panic c) (a.put (some i) v) w) : Exit.then K (bodyPostD Tryd.prog Tryd.f15 R) (.panic c) a w := leaves_slot i hi v _ _ _ h
abbrev caughtBy (w : World) : List Deferred := [{ target := .fn (.func 38) #[.pointer (some ⟨w.heap.size + 1, 0, none⟩), .pointer (some ⟨w.heap.size, 0, none⟩)], args := #[] }]
theorem told_run {tm : Array Value} {W : World} {K : Nat} {k : Int} (htm : tm[2]? = some (.pointer (some ⟨K, 0, none⟩))) (hc : W.cell? ⟨K, 0, none⟩ = some (.int .i64 k)) :
    (results Tryd.f15 tm).run Tryd.prog W = .ok (.int .i64 k) W := by
  simp [results, Tryd.results15, htm, go_sem, hc]
theorem step_caught {B : Nat} {s : St} {w W : World} {k a : Int} (hb : Begun w W B s) (hB : B < w.heap.size) (ha : 0 ≤ a ∧ a ≤ 4294967295) {tm : Array Value} (htm : tm[2]? = some (.pointer (some ⟨w.heap.size + 1, 0, none⟩)))
    {R : Ending → World → Prop} (hR : ∀ W', HAt W' B { s with why := a } → But [B] w.heap.size w W' → R (.returned (.int .i64 k)) W') :
    Leaves Tryd.prog Tryd.f15 tm R (caughtBy w) (.panicking (haltP k a)) W := by
  refine leaves_cons (f := 38) (args := #[.pointer (some ⟨w.heap.size + 1, 0, none⟩), .pointer (some ⟨w.heap.size, 0, none⟩)]) (by simp) (by simp [go_sem]) ?_
  refine (catch_halt k a ha hb.h (by omega) (by omega) 0 hb.cK hb.fK hb.cL (by omega) []).mono ?_
  rintro e u' W' ⟨rfl, rfl, hx, cx, kx⟩
  exact ⟨_, told_run htm cx, hR W' hx (hb.k.trans (kx.mono hb.k.size (by simp)))⟩
theorem step_left {B : Nat} {s : St} {w W : World} {k : Int} (h : HAt W B s) (kb : But [B] w.heap.size w W) (cK : W.cell? ⟨w.heap.size + 1, 0, none⟩ = some (.int .i64 k)) {tm : Array Value} (htm : tm[2]? = some (.pointer (some ⟨w.heap.size + 1, 0, none⟩)))
    {R : Ending → World → Prop} (hR : ∀ W', HAt W' B s → But [B] w.heap.size w W' → R (.returned (.int .i64 k)) W') :
    Leaves Tryd.prog Tryd.f15 tm R (caughtBy w) .returning W := by
  refine leaves_cons (f := 38) (args := #[.pointer (some ⟨w.heap.size + 1, 0, none⟩), .pointer (some ⟨w.heap.size, 0, none⟩)]) (by simp) (by simp [go_sem]) ?_
  refine (catch_idle (w.heap.size + 1) w.heap.size W).mono ?_
  rintro e u' W' ⟨rfl, rfl, bx⟩
  exact ⟨_, told_run htm ((bx.cell (p := ⟨w.heap.size + 1, 0, none⟩) (size_of_cell cK)).trans cK), hR W' (h.below bx h.lt) (kb.trans (But.of (bx.mono kb.size) _))⟩
set_option maxRecDepth 20000 in
theorem Step_nofetch {B : Nat} {s : St} {w : World} (h : HAt w B s) (tabs : Tabs w) (hf : fitsL s.pc 4 = false) :
    Calls Tryd.prog 15 #[hp B] w fun e w' => e = .returned (.int .i64 5) ∧ HAt w' B { s with why := s.pc } ∧ But [B] w.heap.size w w' := by
  have hmf : ∀ (fn : Fn) (first cap : Array Value) (w : World), (Instr.makeFunc fn first cap).run Tryd.prog w = .ok (.func fn first cap) w := fun _ _ _ _ => rfl
  have hb := Begun.of h
  have bpc := h.ok.pc
  have lo := fun W (hW : Begun w W B s) => loaded_no hW.h 5 s.pc 4 bpc hf
  have hpc := h.pc
  go_enter_defers Tryd.func15, Tryd.ntmps15
  go_wp2_with fail
  refine wp_region_held_drew (S := fun W => W.cell? ⟨w.heap.size, 0, none⟩ = some (hp B) ∧ W.cell? ⟨B, 32, none⟩ = some (.int .u32 s.pc) ∧ Begun w W B s) (by kernel_rfl) ⟨hb.cL, hb.h.pc, hb⟩ (fun hHeld => ?_)
  refine wpAnyH_take (i := 0) (v := hp B) rfl (by kernel_rfl) (by kernel_rfl) (by kernel_rfl) (post_slot 7 (by decide) _) (Or.inl ⟨by rfl, ?_⟩) hHeld ?_
  · intro W hS
    obtain ⟨s1, s2, s3⟩ := hS
    go_simp
  simp only [Act.put, List.setIfInBounds_toArray, List.set_cons_zero, List.set_cons_succ]
  refine wpAnyH_take (i := 1) (v := hp B) rfl (by kernel_rfl) (by kernel_rfl) (by kernel_rfl) (post_slot 8 (by decide) _) (Or.inl ⟨by rfl, ?_⟩) hHeld ?_
  · intro W hS
    obtain ⟨s1, s2, s3⟩ := hS
    go_simp
  simp only [Act.put, List.setIfInBounds_toArray, List.set_cons_zero, List.set_cons_succ]
  refine wpAnyH_take (i := 2) (v := hp B) rfl (by kernel_rfl) (by kernel_rfl) (by kernel_rfl) (post_slot 9 (by decide) _) (Or.inl ⟨by rfl, ?_⟩) hHeld ?_
  · intro W hS
    obtain ⟨s1, s2, s3⟩ := hS
    go_simp
  simp only [Act.put, List.setIfInBounds_toArray, List.set_cons_zero, List.set_cons_succ]
  refine wpAnyH_take (i := 3) (v := .pointer (some ⟨B, 32, none⟩)) rfl (by kernel_rfl) (by kernel_rfl) (by kernel_rfl) (post_slot 10 (by decide) _) (Or.inl ⟨by rfl, ?_⟩) hHeld ?_
  · intro W hS
    obtain ⟨s1, s2, s3⟩ := hS
    go_simp
  simp only [Act.put, List.setIfInBounds_toArray, List.set_cons_zero, List.set_cons_succ]
  refine wpAnyH_take (i := 4) (v := .int .u32 s.pc) rfl (by kernel_rfl) (by kernel_rfl) (by kernel_rfl) (post_slot 11 (by decide) _) (Or.inl ⟨by rfl, ?_⟩) hHeld ?_
  · intro W hS
    obtain ⟨s1, s2, s3⟩ := hS
    go_simp
  simp only [Act.put, List.setIfInBounds_toArray, List.set_cons_zero, List.set_cons_succ]
  refine wpAnyH_ready (rs := [5, 10]) (by kernel_rfl) (by simp) ?_
  refine AllReadyH.cons rfl (fun K hK => ?_) (AllReadyH.cons rfl (fun K hK => ?_) AllReadyH.nil)
  · go_simp
    go_at_call 40
    refine (lo _ hb).mono ?_
    rintro e w' ⟨rfl, rfl⟩
    exact step_caught hb h.lt bpc rfl fun W' h1 h2 => ⟨rfl, h1, h2⟩
  · go_simp
    refine hK.out _ _ ⟨(hb.alloc _).cL, (hb.alloc _).h.pc, hb.alloc _⟩ (fun hHeld2 => ?_)
    clear hK K
    refine wpAnyH_ready (rs := [5]) (by kernel_rfl) (by simp) ?_
    refine AllReadyH.cons rfl (fun K hK => ?_) AllReadyH.nil
    go_simp
    go_at_call 40
    refine (lo _ hHeld2.2.2).mono ?_
    rintro e w' ⟨rfl, rfl⟩
    exact step_caught hHeld2.2.2 h.lt bpc rfl fun W' h1 h2 => ⟨rfl, h1, h2⟩
end Go.Proofs.YtcddhlepkmbkcaaDoor
