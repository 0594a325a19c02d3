/- A copy of a host; runs. -/
import Derived.Test.YtcddhlepkmbkcaaDoorQ6
import Derived.Test.YtcddhlepkmbkcaaDoorN0
import Derived.Deep.MidRow
import Derived.Deep.WholeRow
namespace Go.Proofs.YtcddhlepkmbkcaaDoor
open Go.RowKit
set_option linter.unusedVariables false
set_option linter.unusedSimpArgs false
set_option linter.unusedSectionVars false

theorem Run_neg {B : Nat} {s : St} {w : World} (h : HAt w B s) (F : Int) (hF : F < 0) :
    Calls Tryd.prog 20 #[hp B, .int .i64 F] w fun e w' => e = .returned (.tuple #[.int .i64 0, .int .i64 0]) ∧ w' = w := by
  go_enter Tryd.func20, Tryd.ntmps20
  go_wp2_with fail
  go_loopw [12] (fun ii W => ii = .int .i64 0 ∧ W = w) (fun _ _ => 0)
  case atStart => exact ⟨rfl, rfl⟩
  case round =>
    obtain ⟨rfl, rfl⟩ := hrel
    go_wp2_with fail
    go_ret2
    exact ⟨rfl, rfl⟩
theorem rRun_neg {R M : Nat} {s : St} {w : World} (h : RAt w R M s) (F : Int) (hF : F ≤ 0) :
    Calls Tryd.prog 21 #[rp R, .int .i64 F] w fun e w' => e = .returned (.tuple #[.int .i64 0, .int .i64 0]) ∧ w' = w := by
  have hn : ¬ 0 < F := by omega
  have hn2 : F < 1000000 := by omega
  have hn3 : ¬ 1000000 < F := by omega
  go_enter Tryd.func21, Tryd.ntmps21
  go_wp2_with fail
  all_goals go_loopw [7] (fun ii W => ii = .int .i64 0 ∧ W = w) (fun _ _ => 0)
  case atStart => exact ⟨rfl, rfl⟩
  case round =>
    obtain ⟨rfl, rfl⟩ := hrel
    go_wp2_with fail
    go_ret2
    exact ⟨rfl, rfl⟩
theorem rRun_pos {R M : Nat} {s : St} {w : World} (h : RAt w R M s) (F : Nat) (hF : F ≤ 1000000) (h0 : 0 < F) :
    Calls Tryd.prog 21 #[rp R, .int .i64 F] w fun e w' =>
      e = .returned (.tuple #[.int .i64 (runL F 0 s).1, .int .i64 ((runL F 0 s).2.1 : Nat)]) ∧ RAt w' R M (runL F 0 s).2.2 ∧ But [R, M] w.heap.size w w' := by
  generalize hR : runL F 0 s = Z
  have hR' := hid hR
  clear hR
  go_enter Tryd.func21, Tryd.ntmps21
  go_wp2_with fail
  go_loopw [7] (fun ii W => ∃ (k : Nat) (t : St), k ≤ F ∧ ii = .int .i64 k ∧ RAt W R M t ∧ But [R, M] w.heap.size w W ∧ Hid (runL (F - k) k t = Z)) (fun ii _ => (F - intOf ii).toNat)
  case atStart => exact ⟨0, s, by omega, rfl, h, But.refl _ _ _, hR'⟩
  case round =>
    obtain ⟨k, t, hk, rfl, ht, kb, hr'⟩ := hrel
    by_cases hlt : k < F
    · have hst := rStep_any ht
      have e1 : F - k = (F - (k + 1)) + 1 := by omega
      cases hz : decide ((stepL t).1 = 0) with
      | true =>
        rw [decide_eq_true_eq] at hz
        have hgo := hid ((runL_go (k := F - (k + 1)) (n := k) hz).symm.trans ((congrArg (fun n => runL n k t) e1).symm.trans hr'.out))
        rw [hz] at hst
        generalize (stepL t).2 = t2 at hst hgo
        clear e1 hz
        go_wp2_with fail
        refine hst.mono ?_
        rintro e w1 ⟨rfl, h1, k1⟩
        have kb1 := kb.trans (k1.mono kb.size (by simp))
        clear hst
        go_wp2_with fail
        go_roundw
        case rel => exact ⟨k + 1, t2, by omega, by go_num, h1, kb1, hgo⟩
        case measure => simp [intOf]; omega
      | false =>
        rw [decide_eq_false_iff_not] at hz
        have hgo := hid ((runL_stop (k := F - (k + 1)) (n := k) hz).symm.trans ((congrArg (fun n => runL n k t) e1).symm.trans hr'.out))
        generalize (stepL t).2 = t2 at hst hgo
        generalize (stepL t).1 = kk at hst hgo hz
        clear e1
        go_wp2_with fail
        refine hst.mono ?_
        rintro e w1 ⟨rfl, h1, k1⟩
        have kb1 := kb.trans (k1.mono kb.size (by simp))
        clear hst
        go_wp2_with fail
        go_ret2
        rw [← hgo.out]
        exact ⟨by simp, h1, kb1⟩
    · obtain rfl : k = F := by omega
      rw [Nat.sub_self] at hr'
      go_wp2_with fail
      go_ret2
      rw [← hr'.out]
      exact ⟨by simp [runL], ht, kb⟩
theorem Run_int {B : Nat} {s : St} {w : World} (h : HAt w B s) (tabs : Tabs w) (F : Int) (hF : F ≤ 1000000) :
    Calls Tryd.prog 20 #[hp B, .int .i64 F] w fun e w' =>
      e = .returned (.tuple #[.int .i64 (runL F.toNat 0 s).1, .int .i64 ((runL F.toNat 0 s).2.1 : Nat)]) ∧ HAt w' B (runL F.toNat 0 s).2.2 ∧ But [B] w.heap.size w w' := by
  by_cases h0 : F < 0
  · rw [show F.toNat = 0 by omega]
    exact (Run_neg h F h0).mono fun e w' k => ⟨k.1, k.2 ▸ h, k.2 ▸ But.refl _ _ _⟩
  · obtain ⟨n, rfl⟩ := Int.eq_ofNat_of_zero_le (Int.not_lt.1 h0)
    rw [Int.toNat_natCast]
    exact Run_any h tabs n (by omega)
theorem rRun_int {R M : Nat} {s : St} {w : World} (h : RAt w R M s) (F : Int) (hF : F ≤ 1000000) :
    Calls Tryd.prog 21 #[rp R, .int .i64 F] w fun e w' =>
      e = .returned (.tuple #[.int .i64 (runL F.toNat 0 s).1, .int .i64 ((runL F.toNat 0 s).2.1 : Nat)]) ∧ RAt w' R M (runL F.toNat 0 s).2.2 ∧ But [R, M] w.heap.size w w' := by
  by_cases h0 : F ≤ 0
  · rw [show F.toNat = 0 by omega]
    exact (rRun_neg h F h0).mono fun e w' k => ⟨k.1, k.2 ▸ h, k.2 ▸ But.refl _ _ _⟩
  · obtain ⟨n, rfl⟩ := Int.eq_ofNat_of_zero_le (show 0 ≤ F by omega)
    rw [Int.toNat_natCast]
    exact rRun_pos h n (by omega) (by omega)
theorem Copy_any {B : Nat} {s : St} {w : World} (h : HAt w B s) :
    Calls Tryd.prog 19 #[hp B] w fun e w' => e = .returned (hp w.heap.size) ∧ HAt w' w.heap.size s ∧ Below w.heap.size w w' := by
  obtain ⟨cs, hb, hc⟩ := h.blk
  have hsz : (Tryd.prog.info? 74).map (·.size) = some cs.size := by rw [hc.size]; kernel_rfl
  have hz : (Tryd.zeroCells74).size = cs.size := zero_host.1.trans hc.size.symm
  have h1 : cs.all (·.oneCell') = true := by
    rw [Array.all_eq_true]
    intro i hi
    rw [hc.size] at hi
    by_cases h32 : i < 32
    · have := (Array.getElem?_eq_some_iff.1 (hc.x i h32)).2; rw [this]; rfl
    · by_cases h33 : i = 32
      · subst h33; have := (Array.getElem?_eq_some_iff.1 hc.pc).2; rw [this]; rfl
      · by_cases h34 : i = 33
        · subst h34; have := (Array.getElem?_eq_some_iff.1 hc.why).2; rw [this]; rfl
        · obtain ⟨j, rfl⟩ : ∃ j, i = 34 + j := ⟨i - 34, by omega⟩
          have := (Array.getElem?_eq_some_iff.1 (hc.m j (by omega))).2; rw [this]; rfl
  have hgl := h.gl
  have hlt := h.lt
  have hok := h.ok
  clear h
  go_enter Tryd.func19, Tryd.ntmps19
  go_wp2_with (first | refine wpList_load_row rfl 74 _ rfl B rfl 74 cs (0, 0) _ hb Tryd.underlying74 rfl hsz ?_ | refine wpList_store_row rfl 74 _ _ rfl w.heap.size cs rfl rfl 74 Tryd.zeroCells74 (alloc_new _ _) hsz hz h1 ?_)
  go_ret
  rw [World.setRow_alloc_new]
  exact ⟨rfl, ⟨by omega, ⟨cs, alloc_new _ _, hc⟩, hok⟩, (Below.refl _ _).alloc (Nat.le_refl _) _⟩
end Go.Proofs.YtcddhlepkmbkcaaDoor
