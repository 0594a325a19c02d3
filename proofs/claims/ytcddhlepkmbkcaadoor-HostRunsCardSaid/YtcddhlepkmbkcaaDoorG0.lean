/- A host at work in a law; what the laws ask first: 'known'. -/
import Derived.Test.YtcddhlepkmbkcaaDoorN0
namespace Go.Proofs.YtcddhlepkmbkcaaDoor
open Go.RowKit
set_option linter.unusedVariables false
set_option linter.unusedSimpArgs false
set_option linter.unusedSectionVars false

/-- Since w0 nothing below B has turned; the host lies at B. -/
structure At (w0 w : World) (B : Nat) (s : St) : Prop where
  h : HAt w B s
  k : But [B] B w0 w
  t : Tabs w
theorem At.but {w0 w w' : World} {B : Nat} {s s' : St} (a : At w0 w B s) (h : HAt w' B s') (k : But [B] w.heap.size w w') : At w0 w' B s' :=
  ⟨h, a.k.trans (k.mono (Nat.le_of_lt a.h.lt) (by simp)), a.t.but k (by simpa using a.h.gl)⟩
theorem At.below {w0 w w' : World} {B : Nat} {s : St} (a : At w0 w B s) (k : Below w.heap.size w w') : At w0 w' B s :=
  a.but (a.h.below k a.h.lt) (But.of k _)
theorem At.done {w w' : World} {B : Nat} {s : St} (a : At w w' B s) : Below B w w' := a.k.below (Nat.le_refl _) (by simp)
theorem aNew (w : World) (tabs : Tabs w) : Calls Tryd.prog 23 #[] w fun e w' => e = .returned (hp w.heap.size) ∧ At w w' w.heap.size newS :=
  (New_any w tabs).mono fun e w' h => ⟨h.1, h.2.1, But.of h.2.2 _, tabs.below h.2.2⟩
theorem aStep {w0 w : World} {B : Nat} {s s' : St} {k : Int} (a : At w0 w B s) (hs : stepL s = (k, s')) : Calls Tryd.prog 15 #[hp B] w fun e w' => e = .returned (.int .i64 k) ∧ At w0 w' B s' :=
  (Step_any a.h a.t).mono fun e w' h => by rw [hs] at h; exact ⟨h.1, a.but h.2.1 h.2.2⟩
theorem aRun {w0 w : World} {B : Nat} {s s' : St} {k : Int} {n : Nat} (F : Nat) (hF : F ≤ 1000000) (a : At w0 w B s) (hs : runL F 0 s = (k, n, s')) :
    Calls Tryd.prog 20 #[hp B, .int .i64 F] w fun e w' => e = .returned (.tuple #[.int .i64 k, .int .i64 (n : Int)]) ∧ At w0 w' B s' :=
  (Run_any a.h a.t F hF).mono fun e w' h => by rw [hs] at h; exact ⟨h.1, a.but h.2.1 h.2.2⟩
theorem aStore {w0 w : World} {B : Nat} {s : St} (a : At w0 w B s) (p n v : Int) (ha : 0 ≤ p ∧ p ≤ 4294967295) (hv : 0 ≤ v ∧ v ≤ 4294967295) (hf : fitsL p n = true) :
    Calls Tryd.prog 13 #[hp B, .int .u32 p, .int .i64 n, .int .u32 v] w fun e w' => e = .returned (.bool true) ∧ At w0 w' B (storeS s p n v) :=
  (Store_yes a.h p n v ha hv hf).mono fun e w' h => ⟨h.1, a.but h.2.1 h.2.2⟩
theorem aStoreNo {w0 w : World} {B : Nat} {s : St} (a : At w0 w B s) (p n v : Int) (ha : 0 ≤ p ∧ p ≤ 4294967295) (hf : fitsL p n = false) :
    Calls Tryd.prog 13 #[hp B, .int .u32 p, .int .i64 n, .int .u32 v] w fun e w' => e = .returned (.bool false) ∧ At w0 w' B s :=
  (Store_no a.h p n v ha hf).mono fun e w' h => ⟨h.1, h.2 ▸ a⟩
theorem aLoad {w0 w : World} {B : Nat} {s : St} (a : At w0 w B s) (p n v : Int) (ha : 0 ≤ p ∧ p ≤ 4294967295) (hf : fitsL p n = true) (hv : wordM s.m p n = v) :
    Calls Tryd.prog 25 #[hp B, .int .u32 p, .int .i64 n] w fun e w' => e = .returned (.tuple #[.int .u32 v, .bool true]) ∧ At w0 w' B s :=
  (Load_yes a.h p n ha hf).mono fun e w' h => ⟨hv ▸ h.1, a.below h.2⟩
theorem aLoadNo {w0 w : World} {B : Nat} {s : St} (a : At w0 w B s) (p n : Int) (ha : 0 ≤ p ∧ p ≤ 4294967295) (hf : fitsL p n = false) :
    Calls Tryd.prog 25 #[hp B, .int .u32 p, .int .i64 n] w fun e w' => e = .returned (.tuple #[.int .u32 0, .bool false]) ∧ At w0 w' B s :=
  (Load_no a.h p n ha hf).mono fun e w' h => ⟨h.1, h.2 ▸ a⟩
theorem aSetX {w0 w : World} {B : Nat} {s s' : St} (a : At w0 w B s) (i v : Int) (hv : 0 ≤ v ∧ v ≤ 4294967295) (hs : setS s i v = s') :
    Calls Tryd.prog 22 #[hp B, .int .i64 i, .int .u32 v] w fun e w' => e = .returned (.tuple #[]) ∧ At w0 w' B s' :=
  (SetX_any a.h i v hv).mono fun e w' h => ⟨h.1, a.but (hs ▸ h.2.1) h.2.2⟩
theorem aX {w0 w : World} {B : Nat} {s : St} (a : At w0 w B s) (i v : Int) (hv : getX s i = v) :
    Calls Tryd.prog 27 #[hp B, .int .i64 i] w fun e w' => e = .returned (.int .u32 v) ∧ At w0 w' B s :=
  (X_any a.h i).mono fun e w' h => ⟨hv ▸ h.1, h.2 ▸ a⟩
theorem aPC {w0 w : World} {B : Nat} {s : St} (a : At w0 w B s) (v : Int) (hv : s.pc = v) :
    Calls Tryd.prog 29 #[hp B] w fun e w' => e = .returned (.int .u32 v) ∧ At w0 w' B s :=
  (PC_any a.h).mono fun e w' h => ⟨hv ▸ h.1, h.2 ▸ a⟩
theorem aWhy {w0 w : World} {B : Nat} {s : St} (a : At w0 w B s) (v : Int) (hv : s.why = v) :
    Calls Tryd.prog 30 #[hp B] w fun e w' => e = .returned (.int .u32 v) ∧ At w0 w' B s :=
  (Why_any a.h).mono fun e w' h => ⟨hv ▸ h.1, h.2 ▸ a⟩

theorem newS_step : stepL newS = (6, newS) := by
  have h1 : fitsL newS.pc 4 = true := by decide
  have h2 : wordM newS.m newS.pc 4 = 0 := by rw [wordM_4]; rfl
  have h3 : decL 0 = none := by kernel_rfl
  exact step_none h1 (by rw [h2]; exact h3)
def kS1 : St := storeS newS 1024 4 5243027
def kS2 : St := { kS1 with x := setX kS1.x 1 5, pc := 1028 }
theorem kS1_step : stepL kS1 = (0, kS2) := by
  have hl : isL 19 1 0 0 5 = true := by decide
  have he : encL 19 1 0 0 5 = 5243027 := by decide
  rw [step_word (s := kS1) (op := 19) (d := 1) (a := 0) (b := 0) (i := 5) (by decide) (by rw [he]; exact load_store (by decide)) hl]
  rw [doL_alu _ _ _ _ _ _ (by decide)]
  have h0 : kS1.x 0 = 0 := rfl
  rw [h0]
  have ha : aluL 19 0 ((0 + 5) % 4294967296) = 5 := by decide
  rw [ha]
  rfl
theorem kS2_x : getX kS2 1 = 5 := by decide
theorem kS2_m : wordM kS2.m 1024 2 = 147 := by rw [wordM_2]; decide
theorem kS2_0 : setS kS2 0 7 = kS2 := by unfold setS; rw [setX_out (by decide)]
theorem known_any (w : World) (tabs : Tabs w) : Calls Tryd.prog 10 #[] w fun e w' => e = .returned (.bool true) ∧ Below w.heap.size w w' := by
  go_enter Tryd.func10, Tryd.ntmps10
  go_wp2_with fail
  refine (aNew _ tabs).mono ?_
  rintro e w1 ⟨rfl, a⟩
  go_wp2_with fail
  refine (aPC a 1024 rfl).mono ?_
  rintro e w2 ⟨rfl, a⟩
  go_wp2_with fail
  refine (aStep a newS_step).mono ?_
  rintro e w3 ⟨rfl, a⟩
  go_wp2_with fail
  refine (aStore a 1024 4 5243027 (by decide) (by decide) (by decide)).mono ?_
  rintro e w4 ⟨rfl, a⟩
  go_wp2_with fail
  refine (aStep (s := kS1) a kS1_step).mono ?_
  rintro e w5 ⟨rfl, a⟩
  go_wp2_with fail
  refine (aX a 1 5 kS2_x).mono ?_
  rintro e w6 ⟨rfl, a⟩
  go_wp2_with fail
  refine (aLoad a 1024 2 147 (by decide) (by decide) kS2_m).mono ?_
  rintro e w7 ⟨rfl, a⟩
  go_wp2_with fail
  refine (aLoadNo a 32768 1 (by decide) (by decide)).mono ?_
  rintro e w8 ⟨rfl, a⟩
  go_wp2_with fail
  refine (aSetX a 0 7 (by decide) kS2_0).mono ?_
  rintro e w9 ⟨rfl, a⟩
  go_wp2_with fail
  refine (aX a 0 0 rfl).mono ?_
  rintro e w10 ⟨rfl, a⟩
  go_wp2_with fail
  refine (aPC a 1028 rfl).mono ?_
  rintro e w11 ⟨rfl, a⟩
  go_wp2_with fail
  refine (aStoreNo a 1 4 0 (by decide) (by decide)).mono ?_
  rintro e w12 ⟨rfl, a⟩
  go_wp2_with fail
  go_ret
  exact ⟨rfl, a.done⟩
end Go.Proofs.YtcddhlepkmbkcaaDoor
