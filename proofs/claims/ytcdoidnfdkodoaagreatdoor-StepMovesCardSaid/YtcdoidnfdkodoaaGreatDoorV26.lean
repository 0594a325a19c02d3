import Derived.Test.YtcdoidnfdkodoaaGreatDoorV25
namespace Go.Proofs.YtcdoidnfdkodoaaGreatDoor
open Go.RowKit
set_option linter.unusedVariables false
set_option linter.unusedSimpArgs false
set_option linter.unusedSectionVars false
theorem mS_r (p : Nat) (hp : p < 4) : mS.r p = 7 := by
  have e : mS = setR Mm.new 0 4 7 := by unfold mS mapS; rw [if_pos mS_map]; rfl
  rw [e]
  show (if 0 ≤ p ∧ p < 0 + 4 then (7 : Int) else Mm.new.r p) = 7
  rw [if_pos (by omega)]
theorem wroteS_ok4 {m : Mm} (ok : m.ok) (hr : ∀ p, p < 4 → m.r p = 7) {A : Int} (hA : 0 ≤ A ∧ A ≤ 1020) (v : Int) : (wroteS m A.toNat 4 v).ok := by
  have h := wroteM_ok ok A (by constructor <;> omega) 4 v
  have e : wroteM m A 4 v = wroteS m A.toNat 4 v := by
    unfold wroteM
    rw [show numL 4 = 4 from rfl, lack_all hr hA (by omega)]
    rfl
  rwa [e] at h
theorem setr_eq {g g' : Gs} (h1 : g.r = g'.r) (h2 : g.pc = g'.pc) (h3 : g.f = g'.f) (h4 : g.df = g'.df) (h5 : g.x = g'.x) : g = g' := by
  cases g; cases g'; simp only at h1 h2 h3 h4 h5; rw [h1, h2, h3, h4, h5]
theorem stack_all (g : Gs) (ok : g.ok) (n q : Int) (hn : 0 ≤ n ∧ n ≤ 255) (wq : 0 ≤ q ∧ q ≤ 255) (w : World) (tabs : Tb w) :
    Calls Tryz.prog 6 #[stV g, .int .u8 n, .int .u8 q] w fun e w' => e = .returned (.bool true) ∧ Below w.heap.size w w' := by
  obtain ⟨k, ek, hk⟩ : ∃ k : Nat, q % 8 = k ∧ k < 8 := ⟨(q % 8).toNat, by omega, by omega⟩
  obtain ⟨j, ej, hj⟩ : ∃ j : Nat, q / 8 % 8 = j ∧ j < 8 := ⟨(q / 8 % 8).toNat, by omega, by omega⟩
  by_cases k4 : k = 4
  · exact stack_four g n q hn wq j k hk hj ek ej (.inl k4) w tabs
  by_cases j4 : j = 4
  · exact stack_four g n q hn wq j k hk hj ek ej (.inr j4) w tabs
  generalize hg1 : ({ setr g 4 (600 + n) with pc := 16 } : Gs) = g1
  have h4 : g1.r 4 = 600 + n := by rw [← hg1]; rfl
  have hpc : g1.pc = 16 := by rw [← hg1]
  have gk : g1.ok := by
    rw [← hg1]
    have := setr_ok13 ok 4 (v := 600 + n) (by omega)
    exact ⟨this.r, by show (0 : Int) ≤ 16 ∧ (16 : Int) ≤ 4294967295; decide, this.x⟩
  have ht : 0 ≤ 596 + n ∧ 596 + n ≤ 1020 := by omega
  have et : topL g1 = 596 + n := by unfold topL; rw [h4]; omega
  have ok1 : (wroteS mS (596 + n).toNat 4 (g1.r k)).ok := wroteS_ok4 mS_ok mS_r ht _
  have r1 : ∀ p, p < 4 → (wroteS mS (596 + n).toNat 4 (g1.r k)).r p = 7 := mS_r
  have ok2 : (wroteS (wroteS mS (596 + n).toNat 4 (g1.r k)) (596 + n).toNat 4 (goOn g1 iCal).pc).ok := wroteS_ok4 ok1 r1 ht _
  have r2 : ∀ p, p < 4 → (wroteS (wroteS mS (596 + n).toNat 4 (g1.r k)) (596 + n).toNat 4 (goOn g1 iCal).pc).r p = 7 := mS_r
  have hA := st_push mS_ok mS_r gk et ht k hk
  have a4 : (setr (goOn g1 (iPsh k)) 4 (596 + n)).r 4 = 596 + n := rfl
  have hB := st_pop (g := setr (goOn g1 (iPsh k)) 4 (596 + n)) ok1 r1 a4 ht (read_w4 _ _ _ (by have := gk.r k; omega)) j hj
  have hC := st_call (g := g1) ok1 r1 et ht
  have p21 : (goOn g1 iCal).pc = 21 := by show (g1.pc + 5) % 4294967296 = 21; rw [hpc]; decide
  have hD := st_ret (g := { setr (goOn g1 iCal) 4 (596 + n) with pc := ((goOn g1 iCal).pc + 40) % 4294967296 }) ok2 r2 rfl ht (v := 21) (by rw [p21]; exact read_w4 _ _ _ (by decide))
  have pop4 : popL (setr (goOn g1 (iPsh k)) 4 (596 + n)) = 600 + n := by show (596 + n + 4) % 4294967296 = 600 + n; omega
  refine stack_walk g n q hn wq j k hk hj ek ej k4 j4 _ _ _ _ g1 hg1.symm _ _ ok1 ok2 (Lib.hid hA) (Lib.hid hB) (Lib.hid hC) (Lib.hid hD) ?_ ?_ rfl h4 ?_ w tabs
  · rw [pop4]
    refine setr_eq ?_ ?_ rfl rfl rfl
    · funext x
      show (if x = j then g1.r k else if x = 4 then 600 + n else if x = 4 then 596 + n else g1.r x) = (if x = j then g1.r k else g1.r x)
      split
      · rfl
      · split
        · rename_i e; rw [e, h4]
        · rfl
    · show ((g1.pc + 1) % 4294967296 + 1) % 4294967296 = 18
      rw [hpc]; decide
  · have e4 : popL ({ setr (goOn g1 iCal) 4 (596 + n) with pc := ((goOn g1 iCal).pc + 40) % 4294967296 } : Gs) = 600 + n := by show (596 + n + 4) % 4294967296 = 600 + n; omega
    rw [e4]
    refine setr_eq ?_ rfl rfl rfl rfl
    funext x
    show (if x = 4 then 600 + n else if x = 4 then 596 + n else g1.r x) = g1.r x
    split
    · rename_i e; rw [e, h4]
    · rfl
  · show ((goOn g1 iCal).pc + 40) % 4294967296 = 61
    rw [p21]; decide
end Go.Proofs.YtcdoidnfdkodoaaGreatDoor
