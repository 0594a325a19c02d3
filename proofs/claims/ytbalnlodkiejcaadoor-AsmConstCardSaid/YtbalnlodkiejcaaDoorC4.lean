import Derived.Test.YtbalnlodkiejcaaDoorC3
namespace Go.Proofs.YtbalnlodkiejcaaDoor
open Go.RowKit
set_option linter.unusedVariables false
set_option linter.unusedSimpArgs false
set_option linter.unusedSectionVars false

theorem hid {p : Prop} (h : p) : RowKit.Hid p := h

/-! ### Decode -/

/-- The first kind from op on, of n kinds, whose word x is. -/
def decF (x : Int) : Nat → Nat → Option Nat
  | _, 0 => none
  | op, n + 1 => if matchL op x then some op else decF x (op + 1) n
/-- The kind whose word x is. -/
def decL (x : Int) : Option Nat := decF x 1 47
def wordO (x : Int) : Option Nat → Value
  | none => .tuple #[wordV 0 0 0 0 0, .bool false]
  | some op => .tuple #[wordV op (dL (formN op) x) (sL (formN op) x) (tL (formN op) x) (immL (formN op) x), .bool true]
theorem own_frozen {w w1 : World} {cs : Array Value} {t : TypeId} (b : Below (w.alloc (.cells cs t)).heap.size (w.alloc (.cells cs t)) w1) (i : Nat) :
    w1.frozen? ⟨w.heap.size, i, none⟩ = false := by
  rw [b.frozen (by simp)]
  have := alloc_new w (.cells cs t)
  simp only [World.frozen?, this]
  simp
theorem Tabs.mas1 {w : World} (tabs : Tabs w) {f : Nat} (hf : f < 10) (o : Obj) :
    (w.alloc o).cell? ⟨1, f, none⟩ = some (.int .u32 (masksT.getD f 0)) :=
  (tabs.below ((Below.refl w.heap.size w).alloc (Nat.le_refl _) o)).2.2.1 f hf
theorem decF_hit {x : Int} {op n : Nat} (h : matchL op x = true) : decF x op (n + 1) = some op := by rw [decF, if_pos h]
theorem decF_miss {x : Int} {op n : Nat} (h : matchL op x = false) : decF x op (n + 1) = decF x (op + 1) n := by rw [decF, if_neg (by rw [h]; decide)]
abbrev zeroW : Obj := .cells #[.int .i64 0, .int .i64 0, .int .i64 0, .int .i64 0, .int .i32 0] 37
/-- Five cells written over. -/
theorem set5 (w1 : World) (B : Nat) (x0 x1 x2 x3 x4 v0 v1 v2 v3 v4 : Value) (q0 : w1.cell? ⟨B, 0, none⟩ = some x0) (q1 : w1.cell? ⟨B, 1, none⟩ = some x1) (q2 : w1.cell? ⟨B, 2, none⟩ = some x2)
    (q3 : w1.cell? ⟨B, 3, none⟩ = some x3) (q4 : w1.cell? ⟨B, 4, none⟩ = some x4) (W : World)
    (hW : W = ((((w1.setCell ⟨B, 0, none⟩ v0).setCell ⟨B, 1, none⟩ v1).setCell ⟨B, 2, none⟩ v2).setCell ⟨B, 3, none⟩ v3).setCell ⟨B, 4, none⟩ v4) :
    W.cell? ⟨B, 0, none⟩ = some v0 ∧ W.cell? ⟨B, 1, none⟩ = some v1 ∧ W.cell? ⟨B, 2, none⟩ = some v2 ∧ W.cell? ⟨B, 3, none⟩ = some v3 ∧ W.cell? ⟨B, 4, none⟩ = some v4 := by
  subst hW
  refine ⟨?_, ?_, ?_, ?_, ?_⟩ <;> simp [World.cell?_setCell_other, World.cell?_setCell_same', q0, q1, q2, q3, q4]
set_option maxHeartbeats 2000000 in
theorem dec_any (u : Int) (hu : 0 ≤ u ∧ u ≤ 4294967295) (w : World) (tabs : Tabs w) :
    Calls Tryd.prog 41 #[.int .u32 u] w fun e w' => e = .returned (wordO u (decL u)) ∧ Below w.heap.size w w' := by
  go_enter Tryd.func41, Tryd.ntmps41
  go_wp2_with fail
  have hB : w.heap.size ≤ w.heap.size := Nat.le_refl _
  revert hB
  generalize hBe : w.heap.size = B at *
  intro hB
  go_loopw [4] (fun oo W => ∃ (n : Nat) (w0 : World), n ≤ 47 ∧ oo = .int .i64 (n + 1) ∧ W = w0.alloc zeroW ∧ B = w0.heap.size ∧ Below B w w0 ∧ decL u = decF u (n + 1) (47 - n)) (fun oo _ => (48 - intOf oo).toNat)
  case atStart => exact ⟨0, w, by omega, rfl, rfl, hBe.symm, Below.refl _ _, rfl⟩
  case round =>
    obtain ⟨n, w0, hn, rfl, rfl, rfl, hbw, hd⟩ := hrel
    have tabs0 := tabs.below (hbw.mono (by omega))
    have hd' := hid hd
    clear hd
    rcases Nat.lt_or_ge n 47 with hlt | hge
    · have c2 : ∀ o, (w0.alloc o).cell? ⟨0, (n + 1) * 3 + 1, none⟩ = some (.int .i64 (formN (n + 1))) := fun o => (tabs0.kin1 (k := n + 1) (by omega) o).2.1
      have c3 : ∀ o, (w0.alloc o).cell? ⟨0, (n + 1) * 3 + 2, none⟩ = some (.int .u32 (bitsN (n + 1))) := fun o => (tabs0.kin1 (k := n + 1) (by omega) o).2.2
      have hf := opCases (op := n + 1) (by omega) (by omega)
      have c4 := fun o => tabs0.mas1 (f := formN (n + 1)) (by omega) o
      have hmk := mask_any (formN (n + 1)) (by omega) u hu
      have ha := fun w t => apart_in (n + 1) (by omega) (by omega) u hu w t
      rw [show ((n + 1 : Nat) : Int) = (n : Int) + 1 by simp] at ha
      have tabs1 : ∀ o, Tabs (w0.alloc o).drew := fun o => tabs0.below (((Below.refl _ _).alloc (Nat.le_refl _) o).drew)
      go_wp2_with fail
      go_region
      go_wp2_with fail
      · refine (ha _ (tabs1 _)).mono ?_
        rintro e w1 ⟨rfl, b1⟩
        have b1' : Below (w0.drew.alloc zeroW).heap.size (w0.drew.alloc zeroW) w1 := b1
        have q0 : w1.cell? ⟨w0.heap.size, 0, none⟩ = some (.int .i64 0) := own_cell b1' 0 _ rfl
        have q1 : w1.cell? ⟨w0.heap.size, 1, none⟩ = some (.int .i64 0) := own_cell b1' 1 _ rfl
        have q2 : w1.cell? ⟨w0.heap.size, 2, none⟩ = some (.int .i64 0) := own_cell b1' 2 _ rfl
        have q3 : w1.cell? ⟨w0.heap.size, 3, none⟩ = some (.int .i64 0) := own_cell b1' 3 _ rfl
        have q4 : w1.cell? ⟨w0.heap.size, 4, none⟩ = some (.int .i32 0) := own_cell b1' 4 _ rfl
        have p : ∀ i, w1.frozen? ⟨w0.heap.size, i, none⟩ = false := fun i => own_frozen b1' i
        go_wp2_with fail
        rename_i hmt
        have hmt' : matchL (n + 1) u = true := by unfold matchL; rw [decide_eq_true_eq, ← hmk]; simpa using hmt
        clear c2 c3 c4 ha tabs1
        obtain ⟨s0, s1, s2, s3, s4⟩ := set5 w1 w0.heap.size _ _ _ _ _ (.int .i64 ((n : Int) + 1)) (.int .i64 (dL (formN (n + 1)) u)) (.int .i64 (sL (formN (n + 1)) u)) (.int .i64 (tL (formN (n + 1)) u)) (.int .i32 (immL (formN (n + 1)) u)) q0 q1 q2 q3 q4 _ rfl
        (try simp only [Exit.inBlock, Exit.then]); refine bodyPost_ret (v := .tuple #[wordV ((n : Int) + 1) (dL (formN (n + 1)) u) (sL (formN (n + 1)) u) (tL (formN (n + 1)) u) (immL (formN (n + 1)) u), .bool true]) (by simp [results, Tryd.results41, go_sem, s0, s1, s2, s3, s4]) rfl ?_
        refine ⟨?_, ?_⟩
        · rw [hd'.out, show 47 - n = 46 - n + 1 by omega, decF_hit hmt']
          rfl
        · have bb := (hbw.alloc (Nat.le_refl _) zeroW).drew.trans (b1.mono (by simp))
          refine Below.mono (B := w0.heap.size) ?_ (by omega)
          exact ((((bb.setCell (by simp) _).setCell (by simp) _).setCell (by simp) _).setCell (by simp) _).setCell (by simp) _
      · rename_i hmt
        have hmt' : matchL (n + 1) u = false := by unfold matchL; rw [decide_eq_false_iff_not, ← hmk]; simpa using hmt
        refine ⟨⟨n + 1, w0.drew, by omega, by simp, rfl, rfl, hbw.drew, ?_⟩, ?_⟩
        · rw [hd'.out, show 47 - n = 47 - (n + 1) + 1 by omega, decF_miss hmt']
        · simp [intOf]; omega
    · go_wp2_with fail
      go_returns
      refine ⟨?_, (hbw.alloc (Nat.le_refl _) _).mono (by omega)⟩
      rw [hd'.out, show 47 - n = 0 by omega]
      rfl
end Go.Proofs.YtbalnlodkiejcaaDoor
