/- HostRuns. -/
import Derived.Test.YtcddhlepkmbkcaaDoorV1
import Derived.Test.YtcddhlepkmbkcaaDoorO0
import Derived.Test.YtcddhlepkmbkcaaDoorMem
import Derived.Test.YtcddhlepkmbkcaaDoorQ7
import Derived.ProofKit
import Derived.OpenShut
import Derived.ChangeSlices
namespace Go.Proofs.YtcddhlepkmbkcaaDoor
open Go.ChangeShapes Go.WideShapes Go.ChangeAt Go.RowKit
set_option linter.unusedVariables false
set_option linter.unusedSimpArgs false
set_option linter.unusedSectionVars false

section
variable {H : Type} {enc : TypeId × Value → H} {w : World} {base : Nat} {spare : Nat → Bool} {held : Bool}
set_option maxRecDepth 8000 in
theorem open_us {r : Reach} {b0 : Nat} {v : Value} {d : DataW H} {ps : List MemPlace} (hval : Value.okWide Tryd.prog w r b0 33 v) (hd : DataW.Trod enc Tryd.prog w base spare held 33 v d ps) :
    ∃ a len cap Z, v = .slice a len cap ∧ Words w a len Z := by
  obtain ⟨a, len, cap, rfl⟩ := okWide_slice Tryd.underlying33 hval
  obtain ⟨fuel, hf⟩ := hd
  rcases open_ints Tryd.underlying33 Tryd.underlying24 (by kernel_rfl) hf with ⟨hcs, _⟩ | ⟨x, l, c, zs, hcs, _, hl, hm, hz, _, hcell, hwz⟩
  · simp [Value.cells] at hcs
    exact ⟨_, _, _, fun _ => 0, rfl, .inl hcs.2.1⟩
  · simp [Value.cells] at hcs
    obtain ⟨rfl, rfl, rfl⟩ := hcs
    by_cases h0 : len = 0
    · exact ⟨_, _, _, fun _ => 0, rfl, .inl h0⟩
    · have hlm : len ≤ zs.length := by rw [hz]; split <;> omega
      obtain ⟨b, off, sp⟩ := x
      have hsp : sp = none := by
        have hz := hcell 0 (by omega)
        simp [Addr.add, World.cell?] at hz
        cases sp with
        | none => rfl
        | some q => split at hz <;> simp at hz
      subst hsp
      refine ⟨_, _, _, fun i => zs.getD i 0, rfl, .inr ⟨b, off, rfl, fun i hi => ?_⟩⟩
      have e : (⟨b, off, none⟩ : Addr).add i = ⟨b, off + i, none⟩ := by
        unfold Addr.add
        split
        · rename_i h; first | (simp; omega) | (simp; done)
        · simp
      have hc := hcell i (by omega)
      rw [e] at hc
      refine ⟨hc, wfi_u32 (hwz _ ?_)⟩
      have : i < zs.length := by omega
      simp [List.getD_eq_getElem?_getD, List.getElem?_eq_getElem this]
end
theorem Words.below {w w' : World} {a : Option Addr} {len : Nat} {Z : Nat → Int} (h : Words w a len Z) (k : Below w.heap.size w w') : Words w' a len Z := by
  rcases h with h | ⟨b, off, rfl, hc⟩
  · exact .inl h
  · exact .inr ⟨b, off, rfl, fun i hi => ⟨(k.cell (p := ⟨b, off + i, none⟩) (size_of_cell (hc i hi).1)).trans (hc i hi).1, (hc i hi).2⟩⟩
theorem tRun {n0 : Nat} {w0 w : World} {B R M C : Nat} {s t u : St} (b : Tri n0 w0 w B R M C s t u) (F : Int) (hF : F ≤ 1000000) :
    Calls Tryd.prog 20 #[hp B, .int .i64 F] w fun e w' => e = .returned (.tuple #[.int .i64 (runL F.toNat 0 s).1, .int .i64 ((runL F.toNat 0 s).2.1 : Nat)]) ∧ Tri n0 w0 w' B R M C (runL F.toNat 0 s).2.2 t u :=
  (Run_int b.h b.tb F hF).mono fun e w' h => ⟨h.1, b.host h.2.1 h.2.2⟩
theorem tRunC {n0 : Nat} {w0 w : World} {B R M C : Nat} {s t u : St} (b : Tri n0 w0 w B R M C s t u) (F : Int) (hF : F ≤ 1000000) :
    Calls Tryd.prog 20 #[hp C, .int .i64 F] w fun e w' => e = .returned (.tuple #[.int .i64 (runL F.toNat 0 u).1, .int .i64 ((runL F.toNat 0 u).2.1 : Nat)]) ∧ Tri n0 w0 w' B R M C s t (runL F.toNat 0 u).2.2 :=
  (tRun b.swap F hF).mono fun e w' h => ⟨h.1, h.2.swap⟩
theorem tRunR {n0 : Nat} {w0 w : World} {B R M C : Nat} {s t u : St} (b : Tri n0 w0 w B R M C s t u) (F : Int) (hF : F ≤ 1000000) :
    Calls Tryd.prog 21 #[rp R, .int .i64 F] w fun e w' => e = .returned (.tuple #[.int .i64 (runL F.toNat 0 t).1, .int .i64 ((runL F.toNat 0 t).2.1 : Nat)]) ∧ Tri n0 w0 w' B R M C s (runL F.toNat 0 t).2.2 u :=
  (rRun_int b.r F hF).mono fun e w' h => ⟨h.1, b.ref h.2.1 h.2.2⟩
theorem tSetX {n0 : Nat} {w0 w : World} {B R M C : Nat} {s t u : St} (b : Tri n0 w0 w B R M C s t u) (i v : Int) (hv : 0 ≤ v ∧ v ≤ 4294967295) :
    Calls Tryd.prog 22 #[hp B, .int .i64 i, .int .u32 v] w fun e w' => e = .returned (.tuple #[]) ∧ Tri n0 w0 w' B R M C (setS s i v) t u :=
  (SetX_any b.h i v hv).mono fun e w' h => ⟨h.1, b.host h.2.1 h.2.2⟩
theorem tStore {n0 : Nat} {w0 w : World} {B R M C : Nat} {s t u : St} (b : Tri n0 w0 w B R M C s t u) (p n v : Int) (ha : 0 ≤ p ∧ p ≤ 4294967295) (hv : 0 ≤ v ∧ v ≤ 4294967295) (hf : fitsL p n = true) :
    Calls Tryd.prog 13 #[hp B, .int .u32 p, .int .i64 n, .int .u32 v] w fun e w' => e = .returned (.bool true) ∧ Tri n0 w0 w' B R M C (storeS s p n v) t u :=
  (Store_yes b.h p n v ha hv hf).mono fun e w' h => ⟨h.1, b.host h.2.1 h.2.2⟩
set_option maxHeartbeats 2000000 in
set_option maxRecDepth 20000 in
theorem runs_walk (a : Option Addr) (len cap : Nat) (Z : Nat → Int) (cs : Array Value) (X : Nat → Int) (pc F : Int)
    (hX : cs.size = 31 ∧ ∀ i, i < 31 → cs[i]? = some (.int .u32 (X i)) ∧ 0 ≤ X i ∧ X i ≤ 4294967295) (hpc : 0 ≤ pc ∧ pc ≤ 4294967295) (w : World) (tabs : Tabs w) (hl : Words w a len Z) :
    Calls Tryd.prog 4 #[.slice a len cap, .agg cs, .int .u32 pc, .int .i64 F] w fun e w' => e = .returned (.bool true) ∧ Below w.heap.size w w' := by
  have kA := (Below.refl w.heap.size w).alloc (Nat.le_refl _) (.cells cs 25)
  have tA := tabs.below kA
  have hsz : (Tryd.prog.info? 25).map (·.size) = some cs.size := by rw [hX.1]; kernel_rfl
  have hrow : (w.alloc (.cells cs 25)).heap[w.heap.size]? = some (.cells cs 25) := alloc_new _ _
  have hlw : w.heap.size < (w.alloc (.cells cs 25)).heap.size := by simp
  by_cases h40 : 40 < len
  · go_enter Tryd.func4, Tryd.ntmps4
    go_wp2_with fail
    refine (known_any _ tA).mono ?_
    rintro e w0 ⟨rfl, b0⟩
    go_wp2_with fail
    go_ret
    exact ⟨rfl, kA.trans (b0.mono (by simp))⟩
  · by_cases h300 : 300 < F
    · go_enter Tryd.func4, Tryd.ntmps4
      go_wp2_with fail
      refine (known_any _ tA).mono ?_
      rintro e w0 ⟨rfl, b0⟩
      go_wp2_with fail
      go_ret
      exact ⟨rfl, kA.trans (b0.mono (by simp))⟩
    · go_enter Tryd.func4, Tryd.ntmps4
      go_wp2_with fail
      refine (known_any _ tA).mono ?_
      rintro e w0 ⟨rfl, b0⟩
      have tabs0 := tA.below b0
      replace hl := (hl.below kA).below b0
      replace hrow : w0.heap[w.heap.size]? = some (.cells cs 25) := (b0.block _ hlw).trans hrow
      have hz : w.heap.size ≤ w0.heap.size := by have := b0.size; omega
      replace b0 := kA.trans (b0.mono (Nat.le_of_lt hlw))
      clear kA tA hlw
      generalize hL : w.heap.size = L at *
      go_wp2_with (refine wpList_load_row rfl 25 _ rfl L rfl 25 cs (0, 0) _ hrow Tryd.underlying25 rfl hsz ?_)
      refine (both_any a len cap Z cs X pc _ tabs0 hl (by omega) hX hpc).mono ?_
      rintro e w1 ⟨B, R, M, s, rfl, bo⟩
      clear hl hX hrow hsz
      replace bo := bo.rebase b0 hz
      go_wp2_with fail
      refine (Copy_any bo.h).mono ?_
      rintro e w2 ⟨rfl, hc, kc⟩
      have tr := bo.copy hc kc
      clear hc kc bo
      generalize w1.heap.size = C at *
      have hF : F ≤ 1000000 := by omega
      go_wp2_with fail
      refine (tRun tr F hF).mono ?_
      rintro e w3 ⟨rfl, t3⟩
      go_wp2_with fail
      refine (tRunR t3 F hF).mono ?_
      rintro e w4 ⟨rfl, t4⟩
      clear t3 tr
      have hC := fun {n0 : Nat} {w0 w : World} {s' t : St} (b : Tri n0 w0 w B R M C s' t s) => tRunC b F hF
      generalize runL F.toNat 0 s = q at *
      obtain ⟨k, m, s1⟩ := q
      simp only [] at t4 hC
      generalize (m : Int) = n at *
      go_wp2_with fail
      refine (alike_x t4.h t4.r).mono ?_
      rintro e w5 ⟨rfl, k5⟩
      replace t4 := t4.below k5
      clear k5
      go_wp2_with fail
      refine (memory_x t4.h t4.r).mono ?_
      rintro e w6 ⟨rfl, k6⟩
      replace t4 := t4.below k6
      clear k6
      go_wp2_with fail
      refine (tSetX t4 5 99 (by decide)).mono ?_
      rintro e w7 ⟨rfl, t7⟩
      clear t4
      go_wp2_with fail
      refine (tStore t7 0 4 77 (by decide) (by decide) (by rfl)).mono ?_
      rintro e w8 ⟨rfl, t8⟩
      clear t7
      go_wp2_with fail
      refine (hC t8).mono ?_
      rintro e w9 ⟨rfl, t9⟩
      clear t8 hC
      go_wp2_with fail
      refine (alike_x t9.c t9.r).mono ?_
      rintro e w10 ⟨rfl, k10⟩
      replace t9 := t9.below k10
      clear k10
      go_wp2_with fail
      refine (memory_x t9.c t9.r).mono ?_
      rintro e w11 ⟨rfl, k11⟩
      replace t9 := t9.below k11
      clear k11
      go_wp2_with fail
      go_ret
      exact ⟨rfl, by rw [hL]; exact t9.done⟩
end Go.Proofs.YtcddhlepkmbkcaaDoor
