/- HostSteps. -/
import Derived.Test.YtcddhlepkmbkcaaDoorQ6
import Derived.Test.YtcddhlepkmbkcaaDoorMem
import Derived.Test.YtcddhlepkmbkcaaDoorQ7
import Derived.Test.YtcddhlepkmbkcaaDoorWf
import Derived.Deep.MidRow
namespace Go.Proofs.YtcddhlepkmbkcaaDoor
open Go.RowKit
set_option linter.unusedVariables false
set_option linter.unusedSimpArgs false
set_option linter.unusedSectionVars false

set_option maxHeartbeats 2000000 in
set_option maxRecDepth 20000 in
theorem steps_walk (op d r1 r2 i x : Int) (raw : Bool) (cs : Array Value) (X : Nat → Int) (v : Int) (hi : -2147483648 ≤ i ∧ i ≤ 2147483647) (hx : 0 ≤ x ∧ x ≤ 4294967295)
    (hX : cs.size = 31 ∧ ∀ i, i < 31 → cs[i]? = some (.int .u32 (X i)) ∧ 0 ≤ X i ∧ X i ≤ 4294967295) (hv : 0 ≤ v ∧ v ≤ 4294967295) (w : World) (tabs : Tabs w) :
    Calls Tryd.prog 3 #[wordV op d r1 r2 i, .int .u32 x, .bool raw, .agg cs, .int .u32 v] w fun e w' => e = .returned (.bool true) ∧ Below w.heap.size w w' := by
  obtain ⟨y, hy⟩ : ∃ y, y = (if isL op d r1 r2 i = true then encL op d r1 r2 i else 0) := ⟨_, rfl⟩
  obtain ⟨ok, hok⟩ : ∃ ok, ok = isL op d r1 r2 i := ⟨_, rfl⟩
  have by_ : 0 ≤ y ∧ y ≤ 4294967295 := by
    rw [hy]
    split
    · rename_i h; exact enc_bd h
    · omega
  have hE := fun w => rEnc_any op d r1 r2 i hi w
  rw [← hy, ← hok] at hE
  clear hy hok
  have ka : Below w.heap.size w ((w.alloc (.cells #[.int .i64 op, .int .i64 d, .int .i64 r1, .int .i64 r2, .int .i32 i] 23)).alloc (.cells cs 25)) := ((Below.refl _ _).alloc (Nat.le_refl _) _).alloc (by simp) _
  have ta := tabs.below ka
  go_enter Tryd.func3, Tryd.ntmps3
  go_wp2_with fail
  have q0 : ((w.alloc (.cells #[.int .i64 op, .int .i64 d, .int .i64 r1, .int .i64 r2, .int .i32 i] 23)).alloc (.cells cs 25)).cell? ⟨w.heap.size, 0, none⟩ = some (.int .i64 op) := by simp [World.cell?_alloc_old]
  have q1 : ((w.alloc (.cells #[.int .i64 op, .int .i64 d, .int .i64 r1, .int .i64 r2, .int .i32 i] 23)).alloc (.cells cs 25)).cell? ⟨w.heap.size, 1, none⟩ = some (.int .i64 d) := by simp [World.cell?_alloc_old]
  have q2 : ((w.alloc (.cells #[.int .i64 op, .int .i64 d, .int .i64 r1, .int .i64 r2, .int .i32 i] 23)).alloc (.cells cs 25)).cell? ⟨w.heap.size, 2, none⟩ = some (.int .i64 r1) := by simp [World.cell?_alloc_old]
  have q3 : ((w.alloc (.cells #[.int .i64 op, .int .i64 d, .int .i64 r1, .int .i64 r2, .int .i32 i] 23)).alloc (.cells cs 25)).cell? ⟨w.heap.size, 3, none⟩ = some (.int .i64 r2) := by simp [World.cell?_alloc_old]
  have q4 : ((w.alloc (.cells #[.int .i64 op, .int .i64 d, .int .i64 r1, .int .i64 r2, .int .i32 i] 23)).alloc (.cells cs 25)).cell? ⟨w.heap.size, 4, none⟩ = some (.int .i32 i) := by simp [World.cell?_alloc_old]
  have qr : ∀ j, j < 31 → ((w.alloc (.cells #[.int .i64 op, .int .i64 d, .int .i64 r1, .int .i64 r2, .int .i32 i] 23)).alloc (.cells cs 25)).cell? ⟨w.heap.size + 1, j, none⟩ = some (.int .u32 (X j)) := fun j hj => by
    have := (hX.2 j hj).1
    have e : w.heap.size + 1 = (w.alloc (.cells #[.int .i64 op, .int .i64 d, .int .i64 r1, .int .i64 r2, .int .i32 i] 23)).heap.size := by simp
    rw [e, World.cell?_alloc_new]
    simp [this]
  have zw : ((w.alloc (.cells #[.int .i64 op, .int .i64 d, .int .i64 r1, .int .i64 r2, .int .i32 i] 23)).alloc (.cells cs 25)).heap.size = w.heap.size + 2 := by simp
  generalize hW : (w.alloc (.cells #[.int .i64 op, .int .i64 d, .int .i64 r1, .int .i64 r2, .int .i32 i] 23)).alloc (.cells cs 25) = W at *
  clear hW
  generalize hL : w.heap.size = L at *
  refine (known_any _ ta).mono ?_
  rintro e w0 ⟨rfl, b0⟩
  have t0 := ta.below b0
  replace q0 := (b0.cell (p := ⟨L, _, none⟩) (show L < W.heap.size by omega)).trans q0
  replace q1 := (b0.cell (p := ⟨L, _, none⟩) (show L < W.heap.size by omega)).trans q1
  replace q2 := (b0.cell (p := ⟨L, _, none⟩) (show L < W.heap.size by omega)).trans q2
  replace q3 := (b0.cell (p := ⟨L, _, none⟩) (show L < W.heap.size by omega)).trans q3
  replace q4 := (b0.cell (p := ⟨L, _, none⟩) (show L < W.heap.size by omega)).trans q4
  replace qr := fun j hj => (b0.cell (p := ⟨L + 1, j, none⟩) (show L + 1 < W.heap.size by omega)).trans (qr j hj)
  have z0 : L + 2 ≤ w0.heap.size := by have := b0.size; omega
  replace ka := ka.trans (b0.mono (by omega))
  clear b0 ta zw
  go_wp2_with fail
  refine (hE w0).mono ?_
  rintro e w1 ⟨rfl, b1⟩
  have t1 := t0.below b1
  replace qr := fun j hj => (b1.cell (p := ⟨L + 1, j, none⟩) (show L + 1 < w0.heap.size by omega)).trans (qr j hj)
  replace ka := ka.trans (b1.mono (by omega))
  replace z0 : L + 2 ≤ w1.heap.size := by have := b1.size; omega
  clear b1 t0 q0 q1 q2 q3 q4 hE
  have hz : ∃ z, z = (if raw = true ∨ ok = false then x else y) ∧ 0 ≤ z ∧ z ≤ 4294967295 := ⟨_, rfl, by split <;> omega⟩
  obtain ⟨z, hz, bz⟩ := hz
  have hr : (w1.alloc (.cells #[.int .u32 z] 24)).rangeAt (L + 1) 0 cs.toList := fun j v hv => by
    have hj : j < 31 := by rw [← hX.1]; simpa using (List.getElem?_eq_some_iff.1 hv).1
    have e := (hX.2 j hj).1
    have hv' : cs[j]? = some v := by simpa using hv
    rw [e] at hv'
    cases hv'
    rw [Nat.zero_add]
    exact (((Below.refl w1.heap.size w1).alloc (Nat.le_refl _) _).cell (p := ⟨L + 1, j, none⟩) (show L + 1 < w1.heap.size by omega)).trans (qr j hj)
  have hsz : (Tryd.prog.info? 25).map (·.size) = some cs.toList.length := by
    rw [show cs.toList.length = 31 by simp [hX.1]]
    kernel_rfl
  have hwd : Words (w1.alloc (.cells #[.int .u32 z] 24)) (some ⟨w1.heap.size, 0, none⟩) 1 (fun _ => z) := .inr ⟨_, _, rfl, fun i hi => by
    obtain rfl : i = 0 := by omega
    exact ⟨by simp, bz⟩⟩
  have kb := ka.trans (((Below.refl w1.heap.size w1).alloc (Nat.le_refl _) (.cells #[.int .u32 z] 24)).mono (show L ≤ w1.heap.size by omega))
  have tb := t1.below ((Below.refl w1.heap.size w1).alloc (Nat.le_refl _) (.cells #[.int .u32 z] 24))
  have zb : L ≤ (w1.alloc (.cells #[.int .u32 z] 24)).heap.size := by simp; omega
  have hb := both_any _ 1 1 _ cs X 1024 _ tb hwd (by decide) hX (by decide)
  clear hwd tb
  cases raw <;> cases ok <;> simp at hz <;> subst hz
  all_goals go_wp2_with (refine wpList_load_mid rfl 25 _ rfl (L + 1) 0 rfl cs.toList _ hr Tryd.underlying25 rfl hsz ?_)
  all_goals
    (refine hb.mono ?_
     rintro e w2 ⟨B, R, M, s, rfl, bo⟩
     have qx : w2.cell? ⟨L + 1, 0, none⟩ = some (.int .u32 (X 0)) := (bo.done.cell (p := ⟨L + 1, 0, none⟩) (show L + 1 < (w1.alloc _).heap.size by simp; omega)).trans ((((Below.refl w1.heap.size w1).alloc (Nat.le_refl _) _).cell (p := ⟨L + 1, 0, none⟩) (show L + 1 < w1.heap.size by omega)).trans (qr 0 (by decide)))
     replace bo := bo.rebase kb zb
     have bx := (hX.2 0 (by decide)).2
     generalize X 0 = x0 at *
     have ba : 0 ≤ (bits .andNot .u32 x0 3).tmod 32768 ∧ (bits .andNot .u32 x0 3).tmod 32768 ≤ 4294967295 := by
       have := (bits_bd .andNot x0 3).1
       rw [Int.tmod_eq_emod_of_nonneg this]
       omega
     clear hb hr hsz kb zb qr z0 t1 ka hX
     go_wp2_with fail)
  all_goals clear qx bx
  all_goals generalize (bits .andNot .u32 x0 3).tmod 32768 = A at *
  all_goals subst hL
  all_goals
    first
    | (refine (bStore bo A 4 v ba hv).mono ?_
       rintro e y1 ⟨rfl, o1⟩
       go_wp2_with fail
       refine (bStoreR o1 A 4 v ba (by decide) hv).mono ?_
       rintro e y2 ⟨rfl, c⟩
       clear bo o1
       generalize putS s A 4 v = s at *
       go_wp2_with fail)
    | have c := bo
  all_goals
    (refine (bStep c).mono ?_
     rintro e x1 ⟨rfl, c1⟩
     go_wp2_with fail
     refine (bStepR c1).mono ?_
     rintro e x2 ⟨rfl, c2⟩
     generalize stepL s = q at *
     obtain ⟨k, s1⟩ := q
     go_wp2_with fail
     refine (alike_any c2).mono ?_
     rintro e x3 ⟨rfl, c3⟩
     go_wp2_with fail
     refine (memory_any c3 rfl).mono ?_
     rintro e x4 ⟨rfl, c4⟩
     go_wp2_with fail
     go_ret
     exact ⟨rfl, c4.done⟩)
end Go.Proofs.YtcddhlepkmbkcaaDoor
