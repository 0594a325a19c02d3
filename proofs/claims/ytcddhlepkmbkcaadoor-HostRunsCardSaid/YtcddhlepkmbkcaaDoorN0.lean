/- A host that is made. -/
import Derived.Test.YtcddhlepkmbkcaaDoorD3
import Derived.Lib.Hide
namespace Go.Proofs.YtcddhlepkmbkcaaDoor
open Go.RowKit
set_option linter.unusedVariables false
set_option linter.unusedSimpArgs false
set_option linter.unusedSectionVars false

def allK (k : IntKind) : List Value → Bool
  | [] => true
  | v :: l => (match v with | .int k' n => k' == k && n == 0 | _ => false) && allK k l
theorem allK_at {k : IntKind} : ∀ {l : List Value}, allK k l = true → ∀ i, i < l.length → l[i]? = some (.int k 0)
  | [], _, i, hi => by simp at hi
  | v :: l, h, i, hi => by
    unfold allK at h
    rw [Bool.and_eq_true] at h
    cases i with
    | zero =>
      cases v <;> simp at h
      simp [h.1.1, h.1.2]
    | succ i => simpa using allK_at h.2 i (by simpa using hi)
def chkH : Option Value → Bool
  | some (.agg cs) => cs.size == 32802 && (allK .u32 (cs.toList.take 34) && allK .u8 (cs.toList.drop 34))
  | _ => false
theorem chk_host : chkH (some (.agg Tryd.zeroCells74)) = true := by kernel_rfl
theorem zero_host : (Tryd.zeroCells74).size = 32802 ∧ (∀ i : Nat, i < 34 → (Tryd.zeroCells74)[i]? = some (.int .u32 0)) ∧ (∀ i : Nat, i < 32768 → (Tryd.zeroCells74)[34 + i]? = some (.int .u8 0)) := by
  have h := chk_host
  generalize Tryd.zeroCells74 = cs at *
  unfold chkH at h
  simp only [Bool.and_eq_true, beq_iff_eq] at h
  obtain ⟨h1, h2, h3⟩ := h
  refine ⟨h1, fun i hi => ?_, fun i hi => ?_⟩
  · have := allK_at h2 i (by simp [h1]; omega)
    simpa [List.getElem?_take, hi] using this
  · have := allK_at h3 i (by simp [h1]; omega)
    simpa [List.getElem?_drop] using this
/-- A new host. -/
def newS : St := ⟨fun _ => 0, 1024, 0, fun _ => 0⟩
theorem newS_ok : newS.ok := ⟨fun _ => by simp [newS], rfl, by simp [newS], by simp [newS], fun _ => by simp [newS]⟩
theorem New_any (w : World) (tabs : Tabs w) : Calls Tryd.prog 23 #[] w fun e w' => e = .returned (hp w.heap.size) ∧ HAt w' w.heap.size newS ∧ Below w.heap.size w w' := by
  have hx : HAt (w.alloc (.cells ((Tryd.zeroCells74).setIfInBounds 32 (.int .u32 1024)) 74)) w.heap.size newS := by
    obtain ⟨h1, h2, h3⟩ := zero_host
    generalize Tryd.zeroCells74 = Z at *
    have e := fun j => set_at (cs := Z) (i := 32) (j := j) (v := .int .u32 1024) (by rw [h1]; decide)
    refine ⟨tabs.1, ⟨Z.setIfInBounds 32 (.int .u32 1024), alloc_new _ _, ⟨by rw [Array.size_setIfInBounds, h1], fun i hi => ?_, by rw [e, if_pos rfl]; rfl, by rw [e, if_neg (by decide)]; exact h2 33 (by decide), fun i hi => by rw [e, if_neg (by omega)]; exact h3 i hi⟩⟩, newS_ok⟩
    rw [e, if_neg (by omega)]
    exact h2 i (by omega)
  have kx : Below w.heap.size w (w.alloc (.cells ((Tryd.zeroCells74).setIfInBounds 32 (.int .u32 1024)) 74)) := (Below.refl _ _).alloc (Nat.le_refl _) _
  go_enter Tryd.func23, Tryd.ntmps23
  go_wp2
  go_ret
  exact ⟨rfl, hx, kx⟩
theorem runL_zero (n : Nat) (s : St) : runL 0 n s = (0, n, s) := rfl
/-- Steps, one after the other. -/
theorem Run_any {B : Nat} {s : St} {w : World} (h : HAt w B s) (tabs : Tabs w) (F : Nat) (hF : F ≤ 1000000) :
    Calls Tryd.prog 20 #[hp B, .int .i64 F] w fun e w' =>
      e = .returned (.tuple #[.int .i64 (runL F 0 s).1, .int .i64 ((runL F 0 s).2.1 : Nat)]) ∧ HAt w' B (runL F 0 s).2.2 ∧ But [B] w.heap.size w w' := by
  have hB := h.lt
  have gB := h.gl
  generalize hR : runL F 0 s = R
  have hR' := hid hR
  clear hR
  go_enter Tryd.func20, Tryd.ntmps20
  go_wp2_with fail
  go_loopw [12] (fun ii W => ∃ (k : Nat) (t : St), k ≤ F ∧ ii = .int .i64 k ∧ HAt W B t ∧ But [B] w.heap.size w W ∧ runL (F - k) k t = R) (fun ii _ => (F - intOf ii).toNat)
  case atStart => exact ⟨0, s, by omega, rfl, h, But.refl _ _ _, hR'.out⟩
  case round =>
    obtain ⟨k, t, hk, rfl, ht, kb, hr⟩ := hrel
    have hr' := hid hr
    clear hr
    have tabsW := tabs.but kb (by simpa using gB)
    by_cases hlt : k < F
    · have hst := Step_any ht tabsW
      have e1 : F - k = (F - (k + 1)) + 1 := by omega
      cases hz : decide ((stepL t).1 = 0) with
      | true =>
        rw [decide_eq_true_eq] at hz
        have hgo := hid ((runL_go (k := F - (k + 1)) (n := k) hz).symm.trans ((congrArg (fun n => runL n k t) e1).symm.trans hr'.out))
        rw [hz] at hst
        generalize (stepL t).2 = t2 at hst hgo
        clear e1 hz
        go_wp2_with fail
        refine hst.mono ?_
        rintro e w1 ⟨rfl, h1, k1⟩
        have kb1 := kb.trans (k1.mono kb.size (by simp))
        clear hst
        go_wp2_with fail
        go_roundw
        case rel => exact ⟨k + 1, t2, by omega, by go_num, h1, kb1, hgo.out⟩
        case measure => simp [intOf]; omega
      | false =>
        rw [decide_eq_false_iff_not] at hz
        have hgo := hid ((runL_stop (k := F - (k + 1)) (n := k) hz).symm.trans ((congrArg (fun n => runL n k t) e1).symm.trans hr'.out))
        generalize (stepL t).2 = t2 at hst hgo
        generalize (stepL t).1 = kk at hst hgo hz
        clear e1
        go_wp2_with fail
        refine hst.mono ?_
        rintro e w1 ⟨rfl, h1, k1⟩
        have kb1 := kb.trans (k1.mono kb.size (by simp))
        clear hst
        go_wp2_with fail
        go_ret2
        rw [← hgo.out]
        exact ⟨by simp, h1, kb1⟩
    · obtain rfl : k = F := by omega
      rw [Nat.sub_self] at hr'
      go_wp2_with fail
      go_ret2
      rw [← hr'.out]
      exact ⟨by simp [runL], ht, kb⟩
end Go.Proofs.YtcddhlepkmbkcaaDoor
