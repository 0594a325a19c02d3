import Derived.Test.YtcgleggdochbeaaDoorS38
namespace Go.Proofs.YtcgleggdochbeaaDoor
open Go.RowKit
set_option maxHeartbeats 8000000
set_option linter.unusedVariables false
set_option linter.unusedSimpArgs false
set_option linter.unusedSectionVars false
def Kd : Nat → On → Prop
 | 0, o => ∃ r, 0 ≤ r ∧ r < 8 ∧ o = onReg r
 | 1, o => ∃ m, 0 ≤ m ∧ m ≤ 4294967295 ∧ o = onImm m
 | 2, o => RMb o ∧ o.k = 3
 | 3, o => o = onZ
 | _, _ => True
def setK : Nat → List Int
 | 0 => [2, 6]
 | 1 => [16, 48, 112]
 | 2 => [8]
 | 3 => [1]
 | _ => [0]
theorem kd_any {o : On} (hm : 0 ≤ o.m ∧ o.m ≤ 4294967295) : ∃ i, i < 5 ∧ Kd i o ∧ cA o ∈ setK i := by
 rcases formsW hm with ⟨r, r1, r2, rfl⟩ | ⟨m, m1, m2, rfl⟩ | ⟨hR, hk⟩ | rfl | hz
 ·exact ⟨0, by decide, ⟨r, r1, r2, rfl⟩, mem_reg ⟨r1, r2⟩⟩
 ·exact ⟨1, by decide, ⟨m, m1, m2, rfl⟩, mem_imm m⟩
 ·exact ⟨2, by decide, ⟨hR, hk⟩, mem_mem hR.1 hk⟩
 ·exact ⟨3, by decide, rfl, mem_z⟩
 ·exact ⟨4, by decide, trivial, by rw [hz]; exact List.mem_singleton.2 rfl⟩
def pairs (op : Int) : List (Nat × Nat) := ((List.range 5).flatMap fun i => (List.range 5).map fun j => (i, j)).filter fun p => !noB op (setK p.1) (setK p.2)
theorem allowed {op c : Int} {A B : On} {rep : Bool} {l : Int} (hi : isB ⟨op, c, A, B, rep, l⟩ = true) (hA : 0 ≤ A.m ∧ A.m ≤ 4294967295) (hB : 0 ≤ B.m ∧ B.m ≤ 4294967295) : ∃ p ∈ pairs op, Kd p.1 A ∧ Kd p.2 B := by
 obtain ⟨i, i5, ki, ci⟩ := kd_any hA
 obtain ⟨j, j5, kj, cj⟩ := kd_any hB
 refine ⟨(i, j), List.mem_filter.2 ⟨List.mem_flatMap.2 ⟨i, List.mem_range.2 i5, List.mem_map.2 ⟨j, List.mem_range.2 j5, rfl⟩⟩, ?_⟩, ki, kj⟩
 cases h : noB op (setK i) (setK j)
 ·rfl
 ·exact not_taken hi h ci cj
def Wy (f : Nat) (k : In) : Prop := ∃ L, (∀ w, Gives f k w L) ∧ ∀ z, z ∈ L ↔ z ∈ waysL k
theorem one_sixteen {k : In} (h : NoFix k) (h3 : atN [3, 4, 5, 6, 7, 8, 9, 10] k.op 0 = -1) (h4 : atN [21, 22, 0, 0, 23, 24, 0, 25] k.op 0 = -1) (h5 : atN [47, 48, 53, 0, 49, 0, 50, 0] k.op 0 = -1) (hS : Wy 54 k) : Wy 23 k := by
 obtain ⟨L, h1, h2⟩ := hS
 exact ⟨L, fun w => w_sin k h h3 h4 h5 L h1 w, h2⟩
theorem no_fix (k : In) (h : ([44, 38, 31, 39, 40, 43, 51, 52, 29, 41, 42] : List Int).contains k.op = false) : NoFix k := by
 simp only [List.contains_cons, Bool.or_eq_false_iff] at h
 exact fix_no k h.1 h.2.1 h.2.2.1 h.2.2.2.1 h.2.2.2.2.1 h.2.2.2.2.2.1 h.2.2.2.2.2.2.1 h.2.2.2.2.2.2.2.1 h.2.2.2.2.2.2.2.2.1 h.2.2.2.2.2.2.2.2.2.1 h.2.2.2.2.2.2.2.2.2.2.1
theorem js {k : In} {L : List (List Int)} (h : ([1, 2, 11, 27, 26, 12, 13, 28] : List Int).contains k.op = false) (hJ : ∀ w, Gives 74 k w L) (w : World) : Gives 54 k w L := by
 simp only [List.contains_cons, Bool.or_eq_false_iff] at h
 exact sj k L hJ h.1 h.2.1 h.2.2.1 h.2.2.2.1 h.2.2.2.2.1 h.2.2.2.2.2.1 h.2.2.2.2.2.2.1 h.2.2.2.2.2.2.2.1 w
theorem os {k : In} {L : List (List Int)} (h : ([44, 38, 31, 39, 40, 43, 51, 52, 29, 41, 42] : List Int).contains k.op = false) (h3 : atN [3, 4, 5, 6, 7, 8, 9, 10] k.op 0 = -1) (h4 : atN [21, 22, 0, 0, 23, 24, 0, 25] k.op 0 = -1) (h5 : atN [47, 48, 53, 0, 49, 0, 50, 0] k.op 0 = -1)
  (h1 : ∀ w, Gives 54 k w L) (h2 : ∀ z, z ∈ L ↔ z ∈ waysL k) : Wy 23 k := one_sixteen (no_fix k h) h3 h4 h5 ⟨L, h1, h2⟩
theorem k31 {o : On} (h : o.k = 3) : (o.k == 1) = false := by simp [h]
theorem k32 {o : On} (h : o.k = 3) : (o.k == 2) = false := by simp [h]
def WyOp (op : Int) : Prop := ∀ {c : Int} {A B : On} {rep : Bool} {l : Int}, isB ⟨op, c, A, B, rep, l⟩ = true → 0 ≤ A.m ∧ A.m ≤ 4294967295 → 0 ≤ B.m ∧ B.m ≤ 4294967295 → Wy 23 ⟨op, c, A, B, rep, l⟩
theorem wy_30 : WyOp 30 := by
 intro c A B rep l hi hA hB
 obtain ⟨hr, hc⟩ := isB_parts hi
 obtain ⟨p, hp, ka, kb⟩ := allowed hi hA hB
 rw [show pairs 30 = [(0, 3), (1, 3), (2, 3)] by kernel_rfl] at hp
 clear hi
 obtain rfl : rep = false := by cases rep; rfl; cases hr
 obtain rfl := knows_no rfl hc
 simp only [List.mem_cons, List.not_mem_nil, or_false] at hp
 rcases hp with rfl | rfl | rfl
 ·skip
  obtain ⟨r, r1, r2, rfl⟩ := ka
  obtain rfl : B = onZ := kb
  exact os rfl rfl rfl rfl (js rfl (jm_30 _ rfl rfl (reg_RMb ⟨r1, r2⟩))) fun z => by simp [waysL, fmsF, expF, fK, addF, nmF, wayF, opW, codeB, mW, b1, b4, bothW, sumF, turF, onReg, onImm, onZ, isR0]
 ·skip
  obtain ⟨m, m1, m2, rfl⟩ := ka
  obtain rfl : B = onZ := kb
  exact os rfl rfl rfl rfl (js rfl (jp_30 _ rfl rfl ⟨m1, m2⟩)) fun z => by simp [waysL, fmsF, expF, fK, addF, nmF, wayF, opW, codeB, mW, b1, b4, bothW, sumF, turF, onReg, onImm, onZ, isR0]
 ·skip
  obtain ⟨hA, hAk⟩ := ka
  obtain rfl : B = onZ := kb
  exact os rfl rfl rfl rfl (js rfl (jm_30 _ rfl (k32 hAk) hA)) fun z => by simp [waysL, fmsF, expF, fK, addF, nmF, wayF, opW, codeB, mW, b1, b4, bothW, sumF, turF, onReg, onImm, onZ, isR0, hAk]
theorem wy_32 : WyOp 32 := by
 intro c A B rep l hi hA hB
 obtain ⟨hr, hc⟩ := isB_parts hi
 obtain ⟨p, hp, ka, kb⟩ := allowed hi hA hB
 rw [show pairs 32 = [(0, 3), (1, 3), (2, 3)] by kernel_rfl] at hp
 clear hi
 obtain rfl : rep = false := by cases rep; rfl; cases hr
 obtain rfl := knows_no rfl hc
 simp only [List.mem_cons, List.not_mem_nil, or_false] at hp
 rcases hp with rfl | rfl | rfl
 ·skip
  obtain ⟨r, r1, r2, rfl⟩ := ka
  obtain rfl : B = onZ := kb
  exact os rfl rfl rfl rfl (js rfl (jm_32 _ rfl rfl (reg_RMb ⟨r1, r2⟩))) fun z => by simp [waysL, fmsF, expF, fK, addF, nmF, wayF, opW, codeB, mW, b1, b4, bothW, sumF, turF, onReg, onImm, onZ, isR0]
 ·skip
  obtain ⟨m, m1, m2, rfl⟩ := ka
  obtain rfl : B = onZ := kb
  cases hf : fitI m
  ·skip
   exact os rfl rfl rfl rfl (js rfl (jf_32 _ rfl rfl hf ⟨m1, m2⟩)) fun z => by simp [waysL, fmsF, expF, fK, addF, nmF, wayF, opW, codeB, mW, b1, b4, bothW, sumF, turF, onReg, onImm, onZ, isR0, hf]
  ·skip
   exact os rfl rfl rfl rfl (js rfl (jt_32 _ rfl rfl hf ⟨m1, m2⟩)) fun z => by simp [waysL, fmsF, expF, fK, addF, nmF, wayF, opW, codeB, mW, b1, b4, bothW, sumF, turF, onReg, onImm, onZ, isR0, hf]
 ·skip
  obtain ⟨hA, hAk⟩ := ka
  obtain rfl : B = onZ := kb
  exact os rfl rfl rfl rfl (js rfl (jm_32 _ rfl (k32 hAk) hA)) fun z => by simp [waysL, fmsF, expF, fK, addF, nmF, wayF, opW, codeB, mW, b1, b4, bothW, sumF, turF, onReg, onImm, onZ, isR0, hAk]
theorem wy_33 : WyOp 33 := by
 intro c A B rep l hi hA hB
 obtain ⟨hr, hc⟩ := isB_parts hi
 obtain ⟨p, hp, ka, kb⟩ := allowed hi hA hB
 rw [show pairs 33 = [(1, 3)] by kernel_rfl] at hp
 clear hi
 obtain rfl : rep = false := by cases rep; rfl; cases hr
 replace hc := knows_hi16 rfl hc
 simp only [List.mem_cons, List.not_mem_nil, or_false] at hp
 subst hp
 ·skip
  obtain ⟨m, m1, m2, rfl⟩ := ka
  obtain rfl : B = onZ := kb
  have y1 : 112 + c < 256 := by omega
  have y2 : ¬ 3968 + c < 256 := by omega
  have y3 : (3968 + c) / 256 = 15 := by omega
  have y4 : (3968 + c) % 256 = 128 + c := by omega
  cases hf : fitI m
  ·skip
   exact os rfl rfl rfl rfl (js rfl (jf_33 _ rfl hf ⟨m1, m2⟩ hc)) fun z => by simp [waysL, fmsF, expF, fK, addF, nmF, wayF, opW, codeB, mW, b1, b4, bothW, sumF, turF, onReg, onImm, onZ, isR0, y1, y2, y3, y4, hf]
  ·skip
   exact os rfl rfl rfl rfl (js rfl (jt_33 _ rfl hf ⟨m1, m2⟩ hc)) fun z => by simp [waysL, fmsF, expF, fK, addF, nmF, wayF, opW, codeB, mW, b1, b4, bothW, sumF, turF, onReg, onImm, onZ, isR0, y1, y2, y3, y4, hf]
theorem wy_34 : WyOp 34 := by
 intro c A B rep l hi hA hB
 obtain ⟨hr, hc⟩ := isB_parts hi
 obtain ⟨p, hp, ka, kb⟩ := allowed hi hA hB
 rw [show pairs 34 = [(0, 3), (2, 3)] by kernel_rfl] at hp
 clear hi
 obtain rfl : rep = false := by cases rep; rfl; cases hr
 replace hc := knows_hi16 rfl hc
 simp only [List.mem_cons, List.not_mem_nil, or_false] at hp
 rcases hp with rfl | rfl
 ·skip
  obtain ⟨r, r1, r2, rfl⟩ := ka
  obtain rfl : B = onZ := kb
  have y2 : ¬ 3984 + c < 256 := by omega
  have y3 : (3984 + c) / 256 = 15 := by omega
  have y4 : (3984 + c) % 256 = 144 + c := by omega
  exact os rfl rfl rfl rfl (js rfl (jm_34 _ rfl (reg_RMb ⟨r1, r2⟩) hc)) fun z => by simp [waysL, fmsF, expF, fK, addF, nmF, wayF, opW, codeB, mW, b1, b4, bothW, sumF, turF, onReg, onImm, onZ, isR0, y2, y3, y4]
 ·skip
  obtain ⟨hA, hAk⟩ := ka
  obtain rfl : B = onZ := kb
  have y2 : ¬ 3984 + c < 256 := by omega
  have y3 : (3984 + c) / 256 = 15 := by omega
  have y4 : (3984 + c) % 256 = 144 + c := by omega
  exact os rfl rfl rfl rfl (js rfl (jm_34 _ rfl hA hc)) fun z => by simp [waysL, fmsF, expF, fK, addF, nmF, wayF, opW, codeB, mW, b1, b4, bothW, sumF, turF, onReg, onImm, onZ, isR0, y2, y3, y4, hAk]
theorem wy_35 : WyOp 35 := by
 intro c A B rep l hi hA hB
 obtain ⟨hr, hc⟩ := isB_parts hi
 obtain ⟨p, hp, ka, kb⟩ := allowed hi hA hB
 rw [show pairs 35 = [(0, 0), (0, 2)] by kernel_rfl] at hp
 clear hi
 obtain rfl : rep = false := by cases rep; rfl; cases hr
 replace hc := knows_hi16 rfl hc
 simp only [List.mem_cons, List.not_mem_nil, or_false] at hp
 rcases hp with rfl | rfl
 ·skip
  obtain ⟨r, r1, r2, rfl⟩ := ka
  obtain ⟨s, s1, s2, rfl⟩ := kb
  have y2 : ¬ 3904 + c < 256 := by omega
  have y3 : (3904 + c) / 256 = 15 := by omega
  have y4 : (3904 + c) % 256 = 64 + c := by omega
  exact os rfl rfl rfl rfl (js rfl (jm_35 _ rfl (reg_RMb ⟨s1, s2⟩) ⟨r1, r2⟩ hc)) fun z => by simp [waysL, fmsF, expF, fK, addF, nmF, wayF, opW, codeB, mW, b1, b4, bothW, sumF, turF, onReg, onImm, onZ, isR0, y2, y3, y4]
 ·skip
  obtain ⟨r, r1, r2, rfl⟩ := ka
  obtain ⟨hB, hBk⟩ := kb
  have y2 : ¬ 3904 + c < 256 := by omega
  have y3 : (3904 + c) / 256 = 15 := by omega
  have y4 : (3904 + c) % 256 = 64 + c := by omega
  exact os rfl rfl rfl rfl (js rfl (jm_35 _ rfl hB ⟨r1, r2⟩ hc)) fun z => by simp [waysL, fmsF, expF, fK, addF, nmF, wayF, opW, codeB, mW, b1, b4, bothW, sumF, turF, onReg, onImm, onZ, isR0, y2, y3, y4, hBk]
theorem wy_18 : WyOp 18 := by
 intro c A B rep l hi hA hB
 obtain ⟨hr, hc⟩ := isB_parts hi
 obtain ⟨p, hp, ka, kb⟩ := allowed hi hA hB
 rw [show pairs 18 = [(0, 0), (0, 2)] by kernel_rfl] at hp
 clear hi
 obtain rfl : rep = false := by cases rep; rfl; cases hr
 obtain rfl := knows_no rfl hc
 simp only [List.mem_cons, List.not_mem_nil, or_false] at hp
 rcases hp with rfl | rfl
 ·skip
  obtain ⟨r, r1, r2, rfl⟩ := ka
  obtain ⟨s, s1, s2, rfl⟩ := kb
  exact os rfl rfl rfl rfl (js rfl (jm_18 _ rfl (reg_RMb ⟨s1, s2⟩) ⟨r1, r2⟩)) fun z => by simp [waysL, fmsF, expF, fK, addF, nmF, wayF, opW, codeB, mW, b1, b4, bothW, sumF, turF, onReg, onImm, onZ, isR0]
 ·skip
  obtain ⟨r, r1, r2, rfl⟩ := ka
  obtain ⟨hB, hBk⟩ := kb
  exact os rfl rfl rfl rfl (js rfl (jm_18 _ rfl hB ⟨r1, r2⟩)) fun z => by simp [waysL, fmsF, expF, fK, addF, nmF, wayF, opW, codeB, mW, b1, b4, bothW, sumF, turF, onReg, onImm, onZ, isR0, hBk]
theorem wy_36 : WyOp 36 := by
 intro c A B rep l hi hA hB
 obtain ⟨hr, hc⟩ := isB_parts hi
 obtain ⟨p, hp, ka, kb⟩ := allowed hi hA hB
 rw [show pairs 36 = [(0, 0), (0, 2)] by kernel_rfl] at hp
 clear hi
 obtain rfl : rep = false := by cases rep; rfl; cases hr
 obtain rfl := knows_no rfl hc
 simp only [List.mem_cons, List.not_mem_nil, or_false] at hp
 rcases hp with rfl | rfl
 ·skip
  obtain ⟨r, r1, r2, rfl⟩ := ka
  obtain ⟨s, s1, s2, rfl⟩ := kb
  exact os rfl rfl rfl rfl (js rfl (jm_36 _ rfl (reg_RMb ⟨s1, s2⟩) ⟨r1, r2⟩)) fun z => by simp [waysL, fmsF, expF, fK, addF, nmF, wayF, opW, codeB, mW, b1, b4, bothW, sumF, turF, onReg, onImm, onZ, isR0]
 ·skip
  obtain ⟨r, r1, r2, rfl⟩ := ka
  obtain ⟨hB, hBk⟩ := kb
  exact os rfl rfl rfl rfl (js rfl (jm_36 _ rfl hB ⟨r1, r2⟩)) fun z => by simp [waysL, fmsF, expF, fK, addF, nmF, wayF, opW, codeB, mW, b1, b4, bothW, sumF, turF, onReg, onImm, onZ, isR0, hBk]
theorem wy_37 : WyOp 37 := by
 intro c A B rep l hi hA hB
 obtain ⟨hr, hc⟩ := isB_parts hi
 obtain ⟨p, hp, ka, kb⟩ := allowed hi hA hB
 rw [show pairs 37 = [(0, 0), (0, 2)] by kernel_rfl] at hp
 clear hi
 obtain rfl : rep = false := by cases rep; rfl; cases hr
 obtain rfl := knows_no rfl hc
 simp only [List.mem_cons, List.not_mem_nil, or_false] at hp
 rcases hp with rfl | rfl
 ·skip
  obtain ⟨r, r1, r2, rfl⟩ := ka
  obtain ⟨s, s1, s2, rfl⟩ := kb
  exact os rfl rfl rfl rfl (js rfl (jm_37 _ rfl (reg_RMb ⟨s1, s2⟩) ⟨r1, r2⟩)) fun z => by simp [waysL, fmsF, expF, fK, addF, nmF, wayF, opW, codeB, mW, b1, b4, bothW, sumF, turF, onReg, onImm, onZ, isR0]
 ·skip
  obtain ⟨r, r1, r2, rfl⟩ := ka
  obtain ⟨hB, hBk⟩ := kb
  exact os rfl rfl rfl rfl (js rfl (jm_37 _ rfl hB ⟨r1, r2⟩)) fun z => by simp [waysL, fmsF, expF, fK, addF, nmF, wayF, opW, codeB, mW, b1, b4, bothW, sumF, turF, onReg, onImm, onZ, isR0, hBk]
theorem wy_45 : WyOp 45 := by
 intro c A B rep l hi hA hB
 obtain ⟨hr, hc⟩ := isB_parts hi
 obtain ⟨p, hp, ka, kb⟩ := allowed hi hA hB
 rw [show pairs 45 = [(2, 3)] by kernel_rfl] at hp
 clear hi
 obtain rfl : rep = false := by cases rep; rfl; cases hr
 obtain rfl := knows_no rfl hc
 simp only [List.mem_cons, List.not_mem_nil, or_false] at hp
 subst hp
 ·skip
  obtain ⟨hA, hAk⟩ := ka
  obtain rfl : B = onZ := kb
  exact os rfl rfl rfl rfl (js rfl (jm_45 _ rfl hA)) fun z => by simp [waysL, fmsF, expF, fK, addF, nmF, wayF, opW, codeB, mW, b1, b4, bothW, sumF, turF, onReg, onImm, onZ, isR0, hAk]
theorem wy_46 : WyOp 46 := by
 intro c A B rep l hi hA hB
 obtain ⟨hr, hc⟩ := isB_parts hi
 obtain ⟨p, hp, ka, kb⟩ := allowed hi hA hB
 rw [show pairs 46 = [(2, 3)] by kernel_rfl] at hp
 clear hi
 obtain rfl : rep = false := by cases rep; rfl; cases hr
 obtain rfl := knows_no rfl hc
 simp only [List.mem_cons, List.not_mem_nil, or_false] at hp
 subst hp
 ·skip
  obtain ⟨hA, hAk⟩ := ka
  obtain rfl : B = onZ := kb
  exact os rfl rfl rfl rfl (js rfl (jm_46 _ rfl hA)) fun z => by simp [waysL, fmsF, expF, fK, addF, nmF, wayF, opW, codeB, mW, b1, b4, bothW, sumF, turF, onReg, onImm, onZ, isR0, hAk]
theorem wy_14 : WyOp 14 := by
 intro c A B rep l hi hA hB
 obtain ⟨hr, hc⟩ := isB_parts hi
 obtain ⟨p, hp, ka, kb⟩ := allowed hi hA hB
 rw [show pairs 14 = [(0, 3), (2, 3)] by kernel_rfl] at hp
 clear hi
 obtain rfl : rep = false := by cases rep; rfl; cases hr
 obtain rfl := knows_no rfl hc
 simp only [List.mem_cons, List.not_mem_nil, or_false] at hp
 rcases hp with rfl | rfl
 ·skip
  obtain ⟨r, r1, r2, rfl⟩ := ka
  obtain rfl : B = onZ := kb
  exact os rfl rfl rfl rfl (js rfl (jm_six _ ⟨by simp, by simp, by simp⟩ (reg_RMb ⟨r1, r2⟩) 0 (by decide) rfl)) fun z => by simp [waysL, fmsF, expF, fK, addF, nmF, wayF, opW, codeB, mW, b1, b4, bothW, sumF, turF, onReg, onImm, onZ, isR0]
 ·skip
  obtain ⟨hA, hAk⟩ := ka
  obtain rfl : B = onZ := kb
  exact os rfl rfl rfl rfl (js rfl (jm_six _ ⟨by simp, by simp, by simp⟩ hA 0 (by decide) rfl)) fun z => by simp [waysL, fmsF, expF, fK, addF, nmF, wayF, opW, codeB, mW, b1, b4, bothW, sumF, turF, onReg, onImm, onZ, isR0, hAk]
theorem wy_15 : WyOp 15 := by
 intro c A B rep l hi hA hB
 obtain ⟨hr, hc⟩ := isB_parts hi
 obtain ⟨p, hp, ka, kb⟩ := allowed hi hA hB
 rw [show pairs 15 = [(0, 3), (2, 3)] by kernel_rfl] at hp
 clear hi
 obtain rfl : rep = false := by cases rep; rfl; cases hr
 obtain rfl := knows_no rfl hc
 simp only [List.mem_cons, List.not_mem_nil, or_false] at hp
 rcases hp with rfl | rfl
 ·skip
  obtain ⟨r, r1, r2, rfl⟩ := ka
  obtain rfl : B = onZ := kb
  exact os rfl rfl rfl rfl (js rfl (jm_six _ ⟨by simp, by simp, by simp⟩ (reg_RMb ⟨r1, r2⟩) 1 (by decide) rfl)) fun z => by simp [waysL, fmsF, expF, fK, addF, nmF, wayF, opW, codeB, mW, b1, b4, bothW, sumF, turF, onReg, onImm, onZ, isR0]
 ·skip
  obtain ⟨hA, hAk⟩ := ka
  obtain rfl : B = onZ := kb
  exact os rfl rfl rfl rfl (js rfl (jm_six _ ⟨by simp, by simp, by simp⟩ hA 1 (by decide) rfl)) fun z => by simp [waysL, fmsF, expF, fK, addF, nmF, wayF, opW, codeB, mW, b1, b4, bothW, sumF, turF, onReg, onImm, onZ, isR0, hAk]
theorem wy_16 : WyOp 16 := by
 intro c A B rep l hi hA hB
 obtain ⟨hr, hc⟩ := isB_parts hi
 obtain ⟨p, hp, ka, kb⟩ := allowed hi hA hB
 rw [show pairs 16 = [(0, 3), (2, 3)] by kernel_rfl] at hp
 clear hi
 obtain rfl : rep = false := by cases rep; rfl; cases hr
 obtain rfl := knows_no rfl hc
 simp only [List.mem_cons, List.not_mem_nil, or_false] at hp
 rcases hp with rfl | rfl
 ·skip
  obtain ⟨r, r1, r2, rfl⟩ := ka
  obtain rfl : B = onZ := kb
  exact os rfl rfl rfl rfl (js rfl (jm_six _ ⟨by simp, by simp, by simp⟩ (reg_RMb ⟨r1, r2⟩) 2 (by decide) rfl)) fun z => by simp [waysL, fmsF, expF, fK, addF, nmF, wayF, opW, codeB, mW, b1, b4, bothW, sumF, turF, onReg, onImm, onZ, isR0]
 ·skip
  obtain ⟨hA, hAk⟩ := ka
  obtain rfl : B = onZ := kb
  exact os rfl rfl rfl rfl (js rfl (jm_six _ ⟨by simp, by simp, by simp⟩ hA 2 (by decide) rfl)) fun z => by simp [waysL, fmsF, expF, fK, addF, nmF, wayF, opW, codeB, mW, b1, b4, bothW, sumF, turF, onReg, onImm, onZ, isR0, hAk]
theorem wy_17 : WyOp 17 := by
 intro c A B rep l hi hA hB
 obtain ⟨hr, hc⟩ := isB_parts hi
 obtain ⟨p, hp, ka, kb⟩ := allowed hi hA hB
 rw [show pairs 17 = [(0, 3), (2, 3)] by kernel_rfl] at hp
 clear hi
 obtain rfl : rep = false := by cases rep; rfl; cases hr
 obtain rfl := knows_no rfl hc
 simp only [List.mem_cons, List.not_mem_nil, or_false] at hp
 rcases hp with rfl | rfl
 ·skip
  obtain ⟨r, r1, r2, rfl⟩ := ka
  obtain rfl : B = onZ := kb
  exact os rfl rfl rfl rfl (js rfl (jm_six _ ⟨by simp, by simp, by simp⟩ (reg_RMb ⟨r1, r2⟩) 3 (by decide) rfl)) fun z => by simp [waysL, fmsF, expF, fK, addF, nmF, wayF, opW, codeB, mW, b1, b4, bothW, sumF, turF, onReg, onImm, onZ, isR0]
 ·skip
  obtain ⟨hA, hAk⟩ := ka
  obtain rfl : B = onZ := kb
  exact os rfl rfl rfl rfl (js rfl (jm_six _ ⟨by simp, by simp, by simp⟩ hA 3 (by decide) rfl)) fun z => by simp [waysL, fmsF, expF, fK, addF, nmF, wayF, opW, codeB, mW, b1, b4, bothW, sumF, turF, onReg, onImm, onZ, isR0, hAk]
theorem wy_19 : WyOp 19 := by
 intro c A B rep l hi hA hB
 obtain ⟨hr, hc⟩ := isB_parts hi
 obtain ⟨p, hp, ka, kb⟩ := allowed hi hA hB
 rw [show pairs 19 = [(0, 3), (2, 3)] by kernel_rfl] at hp
 clear hi
 obtain rfl : rep = false := by cases rep; rfl; cases hr
 obtain rfl := knows_no rfl hc
 simp only [List.mem_cons, List.not_mem_nil, or_false] at hp
 rcases hp with rfl | rfl
 ·skip
  obtain ⟨r, r1, r2, rfl⟩ := ka
  obtain rfl : B = onZ := kb
  exact os rfl rfl rfl rfl (js rfl (jm_six _ ⟨by simp, by simp, by simp⟩ (reg_RMb ⟨r1, r2⟩) 4 (by decide) rfl)) fun z => by simp [waysL, fmsF, expF, fK, addF, nmF, wayF, opW, codeB, mW, b1, b4, bothW, sumF, turF, onReg, onImm, onZ, isR0]
 ·skip
  obtain ⟨hA, hAk⟩ := ka
  obtain rfl : B = onZ := kb
  exact os rfl rfl rfl rfl (js rfl (jm_six _ ⟨by simp, by simp, by simp⟩ hA 4 (by decide) rfl)) fun z => by simp [waysL, fmsF, expF, fK, addF, nmF, wayF, opW, codeB, mW, b1, b4, bothW, sumF, turF, onReg, onImm, onZ, isR0, hAk]
theorem wy_20 : WyOp 20 := by
 intro c A B rep l hi hA hB
 obtain ⟨hr, hc⟩ := isB_parts hi
 obtain ⟨p, hp, ka, kb⟩ := allowed hi hA hB
 rw [show pairs 20 = [(0, 3), (2, 3)] by kernel_rfl] at hp
 clear hi
 obtain rfl : rep = false := by cases rep; rfl; cases hr
 obtain rfl := knows_no rfl hc
 simp only [List.mem_cons, List.not_mem_nil, or_false] at hp
 rcases hp with rfl | rfl
 ·skip
  obtain ⟨r, r1, r2, rfl⟩ := ka
  obtain rfl : B = onZ := kb
  exact os rfl rfl rfl rfl (js rfl (jm_six _ ⟨by simp, by simp, by simp⟩ (reg_RMb ⟨r1, r2⟩) 5 (by decide) rfl)) fun z => by simp [waysL, fmsF, expF, fK, addF, nmF, wayF, opW, codeB, mW, b1, b4, bothW, sumF, turF, onReg, onImm, onZ, isR0]
 ·skip
  obtain ⟨hA, hAk⟩ := ka
  obtain rfl : B = onZ := kb
  exact os rfl rfl rfl rfl (js rfl (jm_six _ ⟨by simp, by simp, by simp⟩ hA 5 (by decide) rfl)) fun z => by simp [waysL, fmsF, expF, fK, addF, nmF, wayF, opW, codeB, mW, b1, b4, bothW, sumF, turF, onReg, onImm, onZ, isR0, hAk]
theorem wy_1 : WyOp 1 := by
 intro c A B rep l hi hA hB
 obtain ⟨hr, hc⟩ := isB_parts hi
 obtain ⟨p, hp, ka, kb⟩ := allowed hi hA hB
 rw [show pairs 1 = [(0, 0), (0, 1), (0, 2), (2, 0), (2, 1)] by kernel_rfl] at hp
 clear hi
 obtain rfl : rep = false := by cases rep; rfl; cases hr
 obtain rfl := knows_no rfl hc
 simp only [List.mem_cons, List.not_mem_nil, or_false] at hp
 rcases hp with rfl | rfl | rfl | rfl | rfl
 ·skip
  obtain ⟨r, r1, r2, rfl⟩ := ka
  obtain ⟨s, s1, s2, rfl⟩ := kb
  have y0 : 184 + r < 256 := by omega
  exact os rfl rfl rfl rfl (sb_1 _ rfl rfl (reg_RMb ⟨r1, r2⟩) (reg_RMb ⟨s1, s2⟩) (.inl rfl)) fun z => by simp [waysL, fmsF, expF, fK, addF, nmF, wayF, opW, codeB, mW, b1, b4, bothW, sumF, turF, onReg, onImm, onZ, isR0, y0]
 ·skip
  obtain ⟨r, r1, r2, rfl⟩ := ka
  obtain ⟨n, n1, n2, rfl⟩ := kb
  have y0 : 184 + r < 256 := by omega
  exact os rfl rfl rfl rfl (sr_1 _ rfl rfl rfl (reg_RMb ⟨r1, r2⟩) (fun _ => ⟨r1, r2⟩) ⟨n1, n2⟩) fun z => by simp [waysL, fmsF, expF, fK, addF, nmF, wayF, opW, codeB, mW, b1, b4, bothW, sumF, turF, onReg, onImm, onZ, isR0, y0]
 ·skip
  obtain ⟨r, r1, r2, rfl⟩ := ka
  obtain ⟨hB, hBk⟩ := kb
  have y0 : 184 + r < 256 := by omega
  exact os rfl rfl rfl rfl (sb_1 _ rfl (by simp [hBk]) (reg_RMb ⟨r1, r2⟩) hB (.inl rfl)) fun z => by simp [waysL, fmsF, expF, fK, addF, nmF, wayF, opW, codeB, mW, b1, b4, bothW, sumF, turF, onReg, onImm, onZ, isR0, y0, hBk]
 ·skip
  obtain ⟨hA, hAk⟩ := ka
  obtain ⟨s, s1, s2, rfl⟩ := kb
  exact os rfl rfl rfl rfl (sb_1 _ rfl rfl hA (reg_RMb ⟨s1, s2⟩) (.inr rfl)) fun z => by simp [waysL, fmsF, expF, fK, addF, nmF, wayF, opW, codeB, mW, b1, b4, bothW, sumF, turF, onReg, onImm, onZ, isR0, hAk]
 ·skip
  obtain ⟨hA, hAk⟩ := ka
  obtain ⟨n, n1, n2, rfl⟩ := kb
  exact os rfl rfl rfl rfl (sm_1 _ rfl rfl (k31 hAk) hA (fun h => absurd h (by simp [hAk])) ⟨n1, n2⟩) fun z => by simp [waysL, fmsF, expF, fK, addF, nmF, wayF, opW, codeB, mW, b1, b4, bothW, sumF, turF, onReg, onImm, onZ, isR0, hAk]
theorem wy_2 : WyOp 2 := by
 intro c A B rep l hi hA hB
 obtain ⟨hr, hc⟩ := isB_parts hi
 obtain ⟨p, hp, ka, kb⟩ := allowed hi hA hB
 rw [show pairs 2 = [(0, 0), (0, 1), (0, 2), (2, 0), (2, 1)] by kernel_rfl] at hp
 clear hi
 obtain rfl : rep = false := by cases rep; rfl; cases hr
 obtain rfl := knows_no rfl hc
 simp only [List.mem_cons, List.not_mem_nil, or_false] at hp
 rcases hp with rfl | rfl | rfl | rfl | rfl
 ·skip
  obtain ⟨r, r1, r2, rfl⟩ := ka
  obtain ⟨s, s1, s2, rfl⟩ := kb
  have y0 : 176 + r < 256 := by omega
  exact os rfl rfl rfl rfl (sb_2 _ rfl rfl (reg_RMb ⟨r1, r2⟩) (reg_RMb ⟨s1, s2⟩) (.inl rfl)) fun z => by simp [waysL, fmsF, expF, fK, addF, nmF, wayF, opW, codeB, mW, b1, b4, bothW, sumF, turF, onReg, onImm, onZ, isR0, y0]
 ·skip
  obtain ⟨r, r1, r2, rfl⟩ := ka
  obtain ⟨n, n1, n2, rfl⟩ := kb
  have y0 : 176 + r < 256 := by omega
  exact os rfl rfl rfl rfl (sr_2 _ rfl rfl rfl (reg_RMb ⟨r1, r2⟩) (fun _ => ⟨r1, r2⟩) ⟨n1, n2⟩) fun z => by simp [waysL, fmsF, expF, fK, addF, nmF, wayF, opW, codeB, mW, b1, b4, bothW, sumF, turF, onReg, onImm, onZ, isR0, y0]
 ·skip
  obtain ⟨r, r1, r2, rfl⟩ := ka
  obtain ⟨hB, hBk⟩ := kb
  have y0 : 176 + r < 256 := by omega
  exact os rfl rfl rfl rfl (sb_2 _ rfl (by simp [hBk]) (reg_RMb ⟨r1, r2⟩) hB (.inl rfl)) fun z => by simp [waysL, fmsF, expF, fK, addF, nmF, wayF, opW, codeB, mW, b1, b4, bothW, sumF, turF, onReg, onImm, onZ, isR0, y0, hBk]
 ·skip
  obtain ⟨hA, hAk⟩ := ka
  obtain ⟨s, s1, s2, rfl⟩ := kb
  exact os rfl rfl rfl rfl (sb_2 _ rfl rfl hA (reg_RMb ⟨s1, s2⟩) (.inr rfl)) fun z => by simp [waysL, fmsF, expF, fK, addF, nmF, wayF, opW, codeB, mW, b1, b4, bothW, sumF, turF, onReg, onImm, onZ, isR0, hAk]
 ·skip
  obtain ⟨hA, hAk⟩ := ka
  obtain ⟨n, n1, n2, rfl⟩ := kb
  exact os rfl rfl rfl rfl (sm_2 _ rfl rfl (k31 hAk) hA (fun h => absurd h (by simp [hAk])) ⟨n1, n2⟩) fun z => by simp [waysL, fmsF, expF, fK, addF, nmF, wayF, opW, codeB, mW, b1, b4, bothW, sumF, turF, onReg, onImm, onZ, isR0, hAk]
theorem wy_11 : WyOp 11 := by
 intro c A B rep l hi hA hB
 obtain ⟨hr, hc⟩ := isB_parts hi
 obtain ⟨p, hp, ka, kb⟩ := allowed hi hA hB
 rw [show pairs 11 = [(0, 0), (0, 1), (2, 0), (2, 1)] by kernel_rfl] at hp
 clear hi
 obtain rfl : rep = false := by cases rep; rfl; cases hr
 obtain rfl := knows_no rfl hc
 simp only [List.mem_cons, List.not_mem_nil, or_false] at hp
 rcases hp with rfl | rfl | rfl | rfl
 ·skip
  obtain ⟨r, r1, r2, rfl⟩ := ka
  obtain ⟨s, s1, s2, rfl⟩ := kb
  exact os rfl rfl rfl rfl (sm_11 _ rfl rfl (reg_RMb ⟨r1, r2⟩) ⟨s1, s2⟩) fun z => by simp [waysL, fmsF, expF, fK, addF, nmF, wayF, opW, codeB, mW, b1, b4, bothW, sumF, turF, onReg, onImm, onZ, isR0]
 ·skip
  obtain ⟨r, r1, r2, rfl⟩ := ka
  obtain ⟨n, n1, n2, rfl⟩ := kb
  by_cases r0 : r = 0
  ·subst r0
   exact os rfl rfl rfl rfl (stt_11 _ rfl rfl rfl (reg_RMb ⟨r1, r2⟩) ⟨n1, n2⟩) fun z => by simp [waysL, fmsF, expF, fK, addF, nmF, wayF, opW, codeB, mW, b1, b4, bothW, sumF, turF, onReg, onImm, onZ, isR0]
  ·skip
   exact os rfl rfl rfl rfl (stf_11 _ rfl rfl (by simp [isR0, onReg, r0]) (reg_RMb ⟨r1, r2⟩) ⟨n1, n2⟩) fun z => by simp [waysL, fmsF, expF, fK, addF, nmF, wayF, opW, codeB, mW, b1, b4, bothW, sumF, turF, onReg, onImm, onZ, isR0, r0]
 ·skip
  obtain ⟨hA, hAk⟩ := ka
  obtain ⟨s, s1, s2, rfl⟩ := kb
  exact os rfl rfl rfl rfl (sm_11 _ rfl rfl hA ⟨s1, s2⟩) fun z => by simp [waysL, fmsF, expF, fK, addF, nmF, wayF, opW, codeB, mW, b1, b4, bothW, sumF, turF, onReg, onImm, onZ, isR0, hAk]
 ·skip
  obtain ⟨hA, hAk⟩ := ka
  obtain ⟨n, n1, n2, rfl⟩ := kb
  exact os rfl rfl rfl rfl (stf_11 _ rfl rfl (by simp [isR0, hAk]) hA ⟨n1, n2⟩) fun z => by simp [waysL, fmsF, expF, fK, addF, nmF, wayF, opW, codeB, mW, b1, b4, bothW, sumF, turF, onReg, onImm, onZ, isR0, hAk]
theorem wy_27 : WyOp 27 := by
 intro c A B rep l hi hA hB
 obtain ⟨hr, hc⟩ := isB_parts hi
 obtain ⟨p, hp, ka, kb⟩ := allowed hi hA hB
 rw [show pairs 27 = [(0, 0), (2, 0)] by kernel_rfl] at hp
 clear hi
 obtain rfl : rep = false := by cases rep; rfl; cases hr
 obtain rfl := knows_no rfl hc
 simp only [List.mem_cons, List.not_mem_nil, or_false] at hp
 rcases hp with rfl | rfl
 ·skip
  obtain ⟨r, r1, r2, rfl⟩ := ka
  obtain ⟨s, s1, s2, rfl⟩ := kb
  exact os rfl rfl rfl rfl (sm_27 _ rfl (reg_RMb ⟨r1, r2⟩) ⟨s1, s2⟩) fun z => by simp [waysL, fmsF, expF, fK, addF, nmF, wayF, opW, codeB, mW, b1, b4, bothW, sumF, turF, onReg, onImm, onZ, isR0]
 ·skip
  obtain ⟨hA, hAk⟩ := ka
  obtain ⟨s, s1, s2, rfl⟩ := kb
  exact os rfl rfl rfl rfl (sm_27 _ rfl hA ⟨s1, s2⟩) fun z => by simp [waysL, fmsF, expF, fK, addF, nmF, wayF, opW, codeB, mW, b1, b4, bothW, sumF, turF, onReg, onImm, onZ, isR0, hAk]
theorem wy_26 : WyOp 26 := by
 intro c A B rep l hi hA hB
 obtain ⟨hr, hc⟩ := isB_parts hi
 obtain ⟨p, hp, ka, kb⟩ := allowed hi hA hB
 rw [show pairs 26 = [(0, 2)] by kernel_rfl] at hp
 clear hi
 obtain rfl : rep = false := by cases rep; rfl; cases hr
 obtain rfl := knows_no rfl hc
 simp only [List.mem_cons, List.not_mem_nil, or_false] at hp
 subst hp
 ·skip
  obtain ⟨r, r1, r2, rfl⟩ := ka
  obtain ⟨hB, hBk⟩ := kb
  exact os rfl rfl rfl rfl (sm_26 _ rfl hB ⟨r1, r2⟩) fun z => by simp [waysL, fmsF, expF, fK, addF, nmF, wayF, opW, codeB, mW, b1, b4, bothW, sumF, turF, onReg, onImm, onZ, isR0, hBk]
theorem wy_12 : WyOp 12 := by
 intro c A B rep l hi hA hB
 obtain ⟨hr, hc⟩ := isB_parts hi
 obtain ⟨p, hp, ka, kb⟩ := allowed hi hA hB
 rw [show pairs 12 = [(0, 3), (2, 3)] by kernel_rfl] at hp
 clear hi
 obtain rfl : rep = false := by cases rep; rfl; cases hr
 obtain rfl := knows_no rfl hc
 simp only [List.mem_cons, List.not_mem_nil, or_false] at hp
 rcases hp with rfl | rfl
 ·skip
  obtain ⟨r, r1, r2, rfl⟩ := ka
  obtain rfl : B = onZ := kb
  have y0 : 64 + r < 256 := by omega
  exact os rfl rfl rfl rfl (sir_12 _ rfl rfl (reg_RMb ⟨r1, r2⟩) (fun _ => ⟨r1, r2⟩)) fun z => by simp [waysL, fmsF, expF, fK, addF, nmF, wayF, opW, codeB, mW, b1, b4, bothW, sumF, turF, onReg, onImm, onZ, isR0, y0]
 ·skip
  obtain ⟨hA, hAk⟩ := ka
  obtain rfl : B = onZ := kb
  exact os rfl rfl rfl rfl (sim_12 _ rfl (k31 hAk) hA (fun h => absurd h (by simp [hAk]))) fun z => by simp [waysL, fmsF, expF, fK, addF, nmF, wayF, opW, codeB, mW, b1, b4, bothW, sumF, turF, onReg, onImm, onZ, isR0, hAk]
theorem wy_13 : WyOp 13 := by
 intro c A B rep l hi hA hB
 obtain ⟨hr, hc⟩ := isB_parts hi
 obtain ⟨p, hp, ka, kb⟩ := allowed hi hA hB
 rw [show pairs 13 = [(0, 3), (2, 3)] by kernel_rfl] at hp
 clear hi
 obtain rfl : rep = false := by cases rep; rfl; cases hr
 obtain rfl := knows_no rfl hc
 simp only [List.mem_cons, List.not_mem_nil, or_false] at hp
 rcases hp with rfl | rfl
 ·skip
  obtain ⟨r, r1, r2, rfl⟩ := ka
  obtain rfl : B = onZ := kb
  have y0 : 72 + r < 256 := by omega
  exact os rfl rfl rfl rfl (sir_13 _ rfl rfl (reg_RMb ⟨r1, r2⟩) (fun _ => ⟨r1, r2⟩)) fun z => by simp [waysL, fmsF, expF, fK, addF, nmF, wayF, opW, codeB, mW, b1, b4, bothW, sumF, turF, onReg, onImm, onZ, isR0, y0]
 ·skip
  obtain ⟨hA, hAk⟩ := ka
  obtain rfl : B = onZ := kb
  exact os rfl rfl rfl rfl (sim_13 _ rfl (k31 hAk) hA (fun h => absurd h (by simp [hAk]))) fun z => by simp [waysL, fmsF, expF, fK, addF, nmF, wayF, opW, codeB, mW, b1, b4, bothW, sumF, turF, onReg, onImm, onZ, isR0, hAk]
theorem wy_28 : WyOp 28 := by
 intro c A B rep l hi hA hB
 obtain ⟨hr, hc⟩ := isB_parts hi
 obtain ⟨p, hp, ka, kb⟩ := allowed hi hA hB
 rw [show pairs 28 = [(0, 3), (1, 3), (2, 3)] by kernel_rfl] at hp
 clear hi
 obtain rfl : rep = false := by cases rep; rfl; cases hr
 obtain rfl := knows_no rfl hc
 simp only [List.mem_cons, List.not_mem_nil, or_false] at hp
 rcases hp with rfl | rfl | rfl
 ·skip
  obtain ⟨r, r1, r2, rfl⟩ := ka
  obtain rfl : B = onZ := kb
  have y0 : 80 + r < 256 := by omega
  exact os rfl rfl rfl rfl (spr_28 _ rfl rfl rfl (reg_RMb ⟨r1, r2⟩) (fun _ => ⟨r1, r2⟩)) fun z => by simp [waysL, fmsF, expF, fK, addF, nmF, wayF, opW, codeB, mW, b1, b4, bothW, sumF, turF, onReg, onImm, onZ, isR0, y0]
 ·skip
  obtain ⟨m, m1, m2, rfl⟩ := ka
  obtain rfl : B = onZ := kb
  cases hf : fitI m
  ·skip
   exact os rfl rfl rfl rfl (spf_28 _ rfl rfl hf ⟨m1, m2⟩) fun z => by simp [waysL, fmsF, expF, fK, addF, nmF, wayF, opW, codeB, mW, b1, b4, bothW, sumF, turF, onReg, onImm, onZ, isR0, hf]
  ·skip
   exact os rfl rfl rfl rfl (spt_28 _ rfl rfl hf ⟨m1, m2⟩) fun z => by simp [waysL, fmsF, expF, fK, addF, nmF, wayF, opW, codeB, mW, b1, b4, bothW, sumF, turF, onReg, onImm, onZ, isR0, hf]
 ·skip
  obtain ⟨hA, hAk⟩ := ka
  obtain rfl : B = onZ := kb
  exact os rfl rfl rfl rfl (spm_28 _ rfl (k32 hAk) (k31 hAk) hA (fun h => absurd h (by simp [hAk]))) fun z => by simp [waysL, fmsF, expF, fK, addF, nmF, wayF, opW, codeB, mW, b1, b4, bothW, sumF, turF, onReg, onImm, onZ, isR0, hAk]
theorem wy_3 : WyOp 3 := by
 intro c A B rep l hi hA hB
 obtain ⟨hr, hc⟩ := isB_parts hi
 obtain ⟨p, hp, ka, kb⟩ := allowed hi hA hB
 rw [show pairs 3 = [(0, 0), (0, 1), (0, 2), (2, 0), (2, 1)] by kernel_rfl] at hp
 clear hi
 obtain rfl : rep = false := by cases rep; rfl; cases hr
 obtain rfl := knows_no rfl hc
 simp only [List.mem_cons, List.not_mem_nil, or_false] at hp
 rcases hp with rfl | rfl | rfl | rfl | rfl
 ·skip
  obtain ⟨r, r1, r2, rfl⟩ := ka
  obtain ⟨s, s1, s2, rfl⟩ := kb
  exact ⟨_, w_both _ (no_fix _ rfl) 0 ⟨by decide, by decide⟩ rfl rfl (reg_RMb ⟨r1, r2⟩) (reg_RMb ⟨s1, s2⟩) (.inl rfl), fun z => by simp [waysL, fmsF, expF, fK, addF, nmF, wayF, opW, codeB, mW, b1, b4, bothW, sumF, turF, onReg, onImm, onZ, isR0]⟩
 ·skip
  obtain ⟨r, r1, r2, rfl⟩ := ka
  obtain ⟨n, n1, n2, rfl⟩ := kb
  by_cases r0 : r = 0
  ·subst r0
   cases hf : fitI n
   ·skip
    exact ⟨_, w_imm_tf _ (no_fix _ rfl) 0 ⟨by decide, by decide⟩ rfl rfl rfl hf (reg_RMb ⟨r1, r2⟩) ⟨n1, n2⟩, fun z => by simp [waysL, fmsF, expF, fK, addF, nmF, wayF, opW, codeB, mW, b1, b4, bothW, sumF, turF, onReg, onImm, onZ, isR0, hf]⟩
   ·skip
    exact ⟨_, w_imm_tt _ (no_fix _ rfl) 0 ⟨by decide, by decide⟩ rfl rfl rfl hf (reg_RMb ⟨r1, r2⟩) ⟨n1, n2⟩, fun z => by simp [waysL, fmsF, expF, fK, addF, nmF, wayF, opW, codeB, mW, b1, b4, bothW, sumF, turF, onReg, onImm, onZ, isR0, hf]⟩
  ·skip
   cases hf : fitI n
   ·skip
    exact ⟨_, w_imm_ff _ (no_fix _ rfl) 0 ⟨by decide, by decide⟩ rfl rfl (by simp [isR0, onReg, r0]) hf (reg_RMb ⟨r1, r2⟩) ⟨n1, n2⟩, fun z => by simp [waysL, fmsF, expF, fK, addF, nmF, wayF, opW, codeB, mW, b1, b4, bothW, sumF, turF, onReg, onImm, onZ, isR0, hf, r0]⟩
   ·skip
    exact ⟨_, w_imm_ft _ (no_fix _ rfl) 0 ⟨by decide, by decide⟩ rfl rfl (by simp [isR0, onReg, r0]) hf (reg_RMb ⟨r1, r2⟩) ⟨n1, n2⟩, fun z => by simp [waysL, fmsF, expF, fK, addF, nmF, wayF, opW, codeB, mW, b1, b4, bothW, sumF, turF, onReg, onImm, onZ, isR0, hf, r0]⟩
 ·skip
  obtain ⟨r, r1, r2, rfl⟩ := ka
  obtain ⟨hB, hBk⟩ := kb
  exact ⟨_, w_both _ (no_fix _ rfl) 0 ⟨by decide, by decide⟩ rfl (k32 hBk) (reg_RMb ⟨r1, r2⟩) hB (.inl rfl), fun z => by simp [waysL, fmsF, expF, fK, addF, nmF, wayF, opW, codeB, mW, b1, b4, bothW, sumF, turF, onReg, onImm, onZ, isR0, hBk]⟩
 ·skip
  obtain ⟨hA, hAk⟩ := ka
  obtain ⟨s, s1, s2, rfl⟩ := kb
  exact ⟨_, w_both _ (no_fix _ rfl) 0 ⟨by decide, by decide⟩ rfl rfl hA (reg_RMb ⟨s1, s2⟩) (.inr rfl), fun z => by simp [waysL, fmsF, expF, fK, addF, nmF, wayF, opW, codeB, mW, b1, b4, bothW, sumF, turF, onReg, onImm, onZ, isR0, hAk]⟩
 ·skip
  obtain ⟨hA, hAk⟩ := ka
  obtain ⟨n, n1, n2, rfl⟩ := kb
  cases hf : fitI n
  ·skip
   exact ⟨_, w_imm_ff _ (no_fix _ rfl) 0 ⟨by decide, by decide⟩ rfl rfl (by simp [isR0, hAk]) hf hA ⟨n1, n2⟩, fun z => by simp [waysL, fmsF, expF, fK, addF, nmF, wayF, opW, codeB, mW, b1, b4, bothW, sumF, turF, onReg, onImm, onZ, isR0, hAk, hf]⟩
  ·skip
   exact ⟨_, w_imm_ft _ (no_fix _ rfl) 0 ⟨by decide, by decide⟩ rfl rfl (by simp [isR0, hAk]) hf hA ⟨n1, n2⟩, fun z => by simp [waysL, fmsF, expF, fK, addF, nmF, wayF, opW, codeB, mW, b1, b4, bothW, sumF, turF, onReg, onImm, onZ, isR0, hAk, hf]⟩
theorem wy_4 : WyOp 4 := by
 intro c A B rep l hi hA hB
 obtain ⟨hr, hc⟩ := isB_parts hi
 obtain ⟨p, hp, ka, kb⟩ := allowed hi hA hB
 rw [show pairs 4 = [(0, 0), (0, 1), (0, 2), (2, 0), (2, 1)] by kernel_rfl] at hp
 clear hi
 obtain rfl : rep = false := by cases rep; rfl; cases hr
 obtain rfl := knows_no rfl hc
 simp only [List.mem_cons, List.not_mem_nil, or_false] at hp
 rcases hp with rfl | rfl | rfl | rfl | rfl
 ·skip
  obtain ⟨r, r1, r2, rfl⟩ := ka
  obtain ⟨s, s1, s2, rfl⟩ := kb
  exact ⟨_, w_both _ (no_fix _ rfl) 1 ⟨by decide, by decide⟩ rfl rfl (reg_RMb ⟨r1, r2⟩) (reg_RMb ⟨s1, s2⟩) (.inl rfl), fun z => by simp [waysL, fmsF, expF, fK, addF, nmF, wayF, opW, codeB, mW, b1, b4, bothW, sumF, turF, onReg, onImm, onZ, isR0]⟩
 ·skip
  obtain ⟨r, r1, r2, rfl⟩ := ka
  obtain ⟨n, n1, n2, rfl⟩ := kb
  by_cases r0 : r = 0
  ·subst r0
   cases hf : fitI n
   ·skip
    exact ⟨_, w_imm_tf _ (no_fix _ rfl) 1 ⟨by decide, by decide⟩ rfl rfl rfl hf (reg_RMb ⟨r1, r2⟩) ⟨n1, n2⟩, fun z => by simp [waysL, fmsF, expF, fK, addF, nmF, wayF, opW, codeB, mW, b1, b4, bothW, sumF, turF, onReg, onImm, onZ, isR0, hf]⟩
   ·skip
    exact ⟨_, w_imm_tt _ (no_fix _ rfl) 1 ⟨by decide, by decide⟩ rfl rfl rfl hf (reg_RMb ⟨r1, r2⟩) ⟨n1, n2⟩, fun z => by simp [waysL, fmsF, expF, fK, addF, nmF, wayF, opW, codeB, mW, b1, b4, bothW, sumF, turF, onReg, onImm, onZ, isR0, hf]⟩
  ·skip
   cases hf : fitI n
   ·skip
    exact ⟨_, w_imm_ff _ (no_fix _ rfl) 1 ⟨by decide, by decide⟩ rfl rfl (by simp [isR0, onReg, r0]) hf (reg_RMb ⟨r1, r2⟩) ⟨n1, n2⟩, fun z => by simp [waysL, fmsF, expF, fK, addF, nmF, wayF, opW, codeB, mW, b1, b4, bothW, sumF, turF, onReg, onImm, onZ, isR0, hf, r0]⟩
   ·skip
    exact ⟨_, w_imm_ft _ (no_fix _ rfl) 1 ⟨by decide, by decide⟩ rfl rfl (by simp [isR0, onReg, r0]) hf (reg_RMb ⟨r1, r2⟩) ⟨n1, n2⟩, fun z => by simp [waysL, fmsF, expF, fK, addF, nmF, wayF, opW, codeB, mW, b1, b4, bothW, sumF, turF, onReg, onImm, onZ, isR0, hf, r0]⟩
 ·skip
  obtain ⟨r, r1, r2, rfl⟩ := ka
  obtain ⟨hB, hBk⟩ := kb
  exact ⟨_, w_both _ (no_fix _ rfl) 1 ⟨by decide, by decide⟩ rfl (k32 hBk) (reg_RMb ⟨r1, r2⟩) hB (.inl rfl), fun z => by simp [waysL, fmsF, expF, fK, addF, nmF, wayF, opW, codeB, mW, b1, b4, bothW, sumF, turF, onReg, onImm, onZ, isR0, hBk]⟩
 ·skip
  obtain ⟨hA, hAk⟩ := ka
  obtain ⟨s, s1, s2, rfl⟩ := kb
  exact ⟨_, w_both _ (no_fix _ rfl) 1 ⟨by decide, by decide⟩ rfl rfl hA (reg_RMb ⟨s1, s2⟩) (.inr rfl), fun z => by simp [waysL, fmsF, expF, fK, addF, nmF, wayF, opW, codeB, mW, b1, b4, bothW, sumF, turF, onReg, onImm, onZ, isR0, hAk]⟩
 ·skip
  obtain ⟨hA, hAk⟩ := ka
  obtain ⟨n, n1, n2, rfl⟩ := kb
  cases hf : fitI n
  ·skip
   exact ⟨_, w_imm_ff _ (no_fix _ rfl) 1 ⟨by decide, by decide⟩ rfl rfl (by simp [isR0, hAk]) hf hA ⟨n1, n2⟩, fun z => by simp [waysL, fmsF, expF, fK, addF, nmF, wayF, opW, codeB, mW, b1, b4, bothW, sumF, turF, onReg, onImm, onZ, isR0, hAk, hf]⟩
  ·skip
   exact ⟨_, w_imm_ft _ (no_fix _ rfl) 1 ⟨by decide, by decide⟩ rfl rfl (by simp [isR0, hAk]) hf hA ⟨n1, n2⟩, fun z => by simp [waysL, fmsF, expF, fK, addF, nmF, wayF, opW, codeB, mW, b1, b4, bothW, sumF, turF, onReg, onImm, onZ, isR0, hAk, hf]⟩
theorem wy_5 : WyOp 5 := by
 intro c A B rep l hi hA hB
 obtain ⟨hr, hc⟩ := isB_parts hi
 obtain ⟨p, hp, ka, kb⟩ := allowed hi hA hB
 rw [show pairs 5 = [(0, 0), (0, 1), (0, 2), (2, 0), (2, 1)] by kernel_rfl] at hp
 clear hi
 obtain rfl : rep = false := by cases rep; rfl; cases hr
 obtain rfl := knows_no rfl hc
 simp only [List.mem_cons, List.not_mem_nil, or_false] at hp
 rcases hp with rfl | rfl | rfl | rfl | rfl
 ·skip
  obtain ⟨r, r1, r2, rfl⟩ := ka
  obtain ⟨s, s1, s2, rfl⟩ := kb
  exact ⟨_, w_both _ (no_fix _ rfl) 2 ⟨by decide, by decide⟩ rfl rfl (reg_RMb ⟨r1, r2⟩) (reg_RMb ⟨s1, s2⟩) (.inl rfl), fun z => by simp [waysL, fmsF, expF, fK, addF, nmF, wayF, opW, codeB, mW, b1, b4, bothW, sumF, turF, onReg, onImm, onZ, isR0]⟩
 ·skip
  obtain ⟨r, r1, r2, rfl⟩ := ka
  obtain ⟨n, n1, n2, rfl⟩ := kb
  by_cases r0 : r = 0
  ·subst r0
   cases hf : fitI n
   ·skip
    exact ⟨_, w_imm_tf _ (no_fix _ rfl) 2 ⟨by decide, by decide⟩ rfl rfl rfl hf (reg_RMb ⟨r1, r2⟩) ⟨n1, n2⟩, fun z => by simp [waysL, fmsF, expF, fK, addF, nmF, wayF, opW, codeB, mW, b1, b4, bothW, sumF, turF, onReg, onImm, onZ, isR0, hf]⟩
   ·skip
    exact ⟨_, w_imm_tt _ (no_fix _ rfl) 2 ⟨by decide, by decide⟩ rfl rfl rfl hf (reg_RMb ⟨r1, r2⟩) ⟨n1, n2⟩, fun z => by simp [waysL, fmsF, expF, fK, addF, nmF, wayF, opW, codeB, mW, b1, b4, bothW, sumF, turF, onReg, onImm, onZ, isR0, hf]⟩
  ·skip
   cases hf : fitI n
   ·skip
    exact ⟨_, w_imm_ff _ (no_fix _ rfl) 2 ⟨by decide, by decide⟩ rfl rfl (by simp [isR0, onReg, r0]) hf (reg_RMb ⟨r1, r2⟩) ⟨n1, n2⟩, fun z => by simp [waysL, fmsF, expF, fK, addF, nmF, wayF, opW, codeB, mW, b1, b4, bothW, sumF, turF, onReg, onImm, onZ, isR0, hf, r0]⟩
   ·skip
    exact ⟨_, w_imm_ft _ (no_fix _ rfl) 2 ⟨by decide, by decide⟩ rfl rfl (by simp [isR0, onReg, r0]) hf (reg_RMb ⟨r1, r2⟩) ⟨n1, n2⟩, fun z => by simp [waysL, fmsF, expF, fK, addF, nmF, wayF, opW, codeB, mW, b1, b4, bothW, sumF, turF, onReg, onImm, onZ, isR0, hf, r0]⟩
 ·skip
  obtain ⟨r, r1, r2, rfl⟩ := ka
  obtain ⟨hB, hBk⟩ := kb
  exact ⟨_, w_both _ (no_fix _ rfl) 2 ⟨by decide, by decide⟩ rfl (k32 hBk) (reg_RMb ⟨r1, r2⟩) hB (.inl rfl), fun z => by simp [waysL, fmsF, expF, fK, addF, nmF, wayF, opW, codeB, mW, b1, b4, bothW, sumF, turF, onReg, onImm, onZ, isR0, hBk]⟩
 ·skip
  obtain ⟨hA, hAk⟩ := ka
  obtain ⟨s, s1, s2, rfl⟩ := kb
  exact ⟨_, w_both _ (no_fix _ rfl) 2 ⟨by decide, by decide⟩ rfl rfl hA (reg_RMb ⟨s1, s2⟩) (.inr rfl), fun z => by simp [waysL, fmsF, expF, fK, addF, nmF, wayF, opW, codeB, mW, b1, b4, bothW, sumF, turF, onReg, onImm, onZ, isR0, hAk]⟩
 ·skip
  obtain ⟨hA, hAk⟩ := ka
  obtain ⟨n, n1, n2, rfl⟩ := kb
  cases hf : fitI n
  ·skip
   exact ⟨_, w_imm_ff _ (no_fix _ rfl) 2 ⟨by decide, by decide⟩ rfl rfl (by simp [isR0, hAk]) hf hA ⟨n1, n2⟩, fun z => by simp [waysL, fmsF, expF, fK, addF, nmF, wayF, opW, codeB, mW, b1, b4, bothW, sumF, turF, onReg, onImm, onZ, isR0, hAk, hf]⟩
  ·skip
   exact ⟨_, w_imm_ft _ (no_fix _ rfl) 2 ⟨by decide, by decide⟩ rfl rfl (by simp [isR0, hAk]) hf hA ⟨n1, n2⟩, fun z => by simp [waysL, fmsF, expF, fK, addF, nmF, wayF, opW, codeB, mW, b1, b4, bothW, sumF, turF, onReg, onImm, onZ, isR0, hAk, hf]⟩
theorem wy_6 : WyOp 6 := by
 intro c A B rep l hi hA hB
 obtain ⟨hr, hc⟩ := isB_parts hi
 obtain ⟨p, hp, ka, kb⟩ := allowed hi hA hB
 rw [show pairs 6 = [(0, 0), (0, 1), (0, 2), (2, 0), (2, 1)] by kernel_rfl] at hp
 clear hi
 obtain rfl : rep = false := by cases rep; rfl; cases hr
 obtain rfl := knows_no rfl hc
 simp only [List.mem_cons, List.not_mem_nil, or_false] at hp
 rcases hp with rfl | rfl | rfl | rfl | rfl
 ·skip
  obtain ⟨r, r1, r2, rfl⟩ := ka
  obtain ⟨s, s1, s2, rfl⟩ := kb
  exact ⟨_, w_both _ (no_fix _ rfl) 3 ⟨by decide, by decide⟩ rfl rfl (reg_RMb ⟨r1, r2⟩) (reg_RMb ⟨s1, s2⟩) (.inl rfl), fun z => by simp [waysL, fmsF, expF, fK, addF, nmF, wayF, opW, codeB, mW, b1, b4, bothW, sumF, turF, onReg, onImm, onZ, isR0]⟩
 ·skip
  obtain ⟨r, r1, r2, rfl⟩ := ka
  obtain ⟨n, n1, n2, rfl⟩ := kb
  by_cases r0 : r = 0
  ·subst r0
   cases hf : fitI n
   ·skip
    exact ⟨_, w_imm_tf _ (no_fix _ rfl) 3 ⟨by decide, by decide⟩ rfl rfl rfl hf (reg_RMb ⟨r1, r2⟩) ⟨n1, n2⟩, fun z => by simp [waysL, fmsF, expF, fK, addF, nmF, wayF, opW, codeB, mW, b1, b4, bothW, sumF, turF, onReg, onImm, onZ, isR0, hf]⟩
   ·skip
    exact ⟨_, w_imm_tt _ (no_fix _ rfl) 3 ⟨by decide, by decide⟩ rfl rfl rfl hf (reg_RMb ⟨r1, r2⟩) ⟨n1, n2⟩, fun z => by simp [waysL, fmsF, expF, fK, addF, nmF, wayF, opW, codeB, mW, b1, b4, bothW, sumF, turF, onReg, onImm, onZ, isR0, hf]⟩
  ·skip
   cases hf : fitI n
   ·skip
    exact ⟨_, w_imm_ff _ (no_fix _ rfl) 3 ⟨by decide, by decide⟩ rfl rfl (by simp [isR0, onReg, r0]) hf (reg_RMb ⟨r1, r2⟩) ⟨n1, n2⟩, fun z => by simp [waysL, fmsF, expF, fK, addF, nmF, wayF, opW, codeB, mW, b1, b4, bothW, sumF, turF, onReg, onImm, onZ, isR0, hf, r0]⟩
   ·skip
    exact ⟨_, w_imm_ft _ (no_fix _ rfl) 3 ⟨by decide, by decide⟩ rfl rfl (by simp [isR0, onReg, r0]) hf (reg_RMb ⟨r1, r2⟩) ⟨n1, n2⟩, fun z => by simp [waysL, fmsF, expF, fK, addF, nmF, wayF, opW, codeB, mW, b1, b4, bothW, sumF, turF, onReg, onImm, onZ, isR0, hf, r0]⟩
 ·skip
  obtain ⟨r, r1, r2, rfl⟩ := ka
  obtain ⟨hB, hBk⟩ := kb
  exact ⟨_, w_both _ (no_fix _ rfl) 3 ⟨by decide, by decide⟩ rfl (k32 hBk) (reg_RMb ⟨r1, r2⟩) hB (.inl rfl), fun z => by simp [waysL, fmsF, expF, fK, addF, nmF, wayF, opW, codeB, mW, b1, b4, bothW, sumF, turF, onReg, onImm, onZ, isR0, hBk]⟩
 ·skip
  obtain ⟨hA, hAk⟩ := ka
  obtain ⟨s, s1, s2, rfl⟩ := kb
  exact ⟨_, w_both _ (no_fix _ rfl) 3 ⟨by decide, by decide⟩ rfl rfl hA (reg_RMb ⟨s1, s2⟩) (.inr rfl), fun z => by simp [waysL, fmsF, expF, fK, addF, nmF, wayF, opW, codeB, mW, b1, b4, bothW, sumF, turF, onReg, onImm, onZ, isR0, hAk]⟩
 ·skip
  obtain ⟨hA, hAk⟩ := ka
  obtain ⟨n, n1, n2, rfl⟩ := kb
  cases hf : fitI n
  ·skip
   exact ⟨_, w_imm_ff _ (no_fix _ rfl) 3 ⟨by decide, by decide⟩ rfl rfl (by simp [isR0, hAk]) hf hA ⟨n1, n2⟩, fun z => by simp [waysL, fmsF, expF, fK, addF, nmF, wayF, opW, codeB, mW, b1, b4, bothW, sumF, turF, onReg, onImm, onZ, isR0, hAk, hf]⟩
  ·skip
   exact ⟨_, w_imm_ft _ (no_fix _ rfl) 3 ⟨by decide, by decide⟩ rfl rfl (by simp [isR0, hAk]) hf hA ⟨n1, n2⟩, fun z => by simp [waysL, fmsF, expF, fK, addF, nmF, wayF, opW, codeB, mW, b1, b4, bothW, sumF, turF, onReg, onImm, onZ, isR0, hAk, hf]⟩
theorem wy_7 : WyOp 7 := by
 intro c A B rep l hi hA hB
 obtain ⟨hr, hc⟩ := isB_parts hi
 obtain ⟨p, hp, ka, kb⟩ := allowed hi hA hB
 rw [show pairs 7 = [(0, 0), (0, 1), (0, 2), (2, 0), (2, 1)] by kernel_rfl] at hp
 clear hi
 obtain rfl : rep = false := by cases rep; rfl; cases hr
 obtain rfl := knows_no rfl hc
 simp only [List.mem_cons, List.not_mem_nil, or_false] at hp
 rcases hp with rfl | rfl | rfl | rfl | rfl
 ·skip
  obtain ⟨r, r1, r2, rfl⟩ := ka
  obtain ⟨s, s1, s2, rfl⟩ := kb
  exact ⟨_, w_both _ (no_fix _ rfl) 4 ⟨by decide, by decide⟩ rfl rfl (reg_RMb ⟨r1, r2⟩) (reg_RMb ⟨s1, s2⟩) (.inl rfl), fun z => by simp [waysL, fmsF, expF, fK, addF, nmF, wayF, opW, codeB, mW, b1, b4, bothW, sumF, turF, onReg, onImm, onZ, isR0]⟩
 ·skip
  obtain ⟨r, r1, r2, rfl⟩ := ka
  obtain ⟨n, n1, n2, rfl⟩ := kb
  by_cases r0 : r = 0
  ·subst r0
   cases hf : fitI n
   ·skip
    exact ⟨_, w_imm_tf _ (no_fix _ rfl) 4 ⟨by decide, by decide⟩ rfl rfl rfl hf (reg_RMb ⟨r1, r2⟩) ⟨n1, n2⟩, fun z => by simp [waysL, fmsF, expF, fK, addF, nmF, wayF, opW, codeB, mW, b1, b4, bothW, sumF, turF, onReg, onImm, onZ, isR0, hf]⟩
   ·skip
    exact ⟨_, w_imm_tt _ (no_fix _ rfl) 4 ⟨by decide, by decide⟩ rfl rfl rfl hf (reg_RMb ⟨r1, r2⟩) ⟨n1, n2⟩, fun z => by simp [waysL, fmsF, expF, fK, addF, nmF, wayF, opW, codeB, mW, b1, b4, bothW, sumF, turF, onReg, onImm, onZ, isR0, hf]⟩
  ·skip
   cases hf : fitI n
   ·skip
    exact ⟨_, w_imm_ff _ (no_fix _ rfl) 4 ⟨by decide, by decide⟩ rfl rfl (by simp [isR0, onReg, r0]) hf (reg_RMb ⟨r1, r2⟩) ⟨n1, n2⟩, fun z => by simp [waysL, fmsF, expF, fK, addF, nmF, wayF, opW, codeB, mW, b1, b4, bothW, sumF, turF, onReg, onImm, onZ, isR0, hf, r0]⟩
   ·skip
    exact ⟨_, w_imm_ft _ (no_fix _ rfl) 4 ⟨by decide, by decide⟩ rfl rfl (by simp [isR0, onReg, r0]) hf (reg_RMb ⟨r1, r2⟩) ⟨n1, n2⟩, fun z => by simp [waysL, fmsF, expF, fK, addF, nmF, wayF, opW, codeB, mW, b1, b4, bothW, sumF, turF, onReg, onImm, onZ, isR0, hf, r0]⟩
 ·skip
  obtain ⟨r, r1, r2, rfl⟩ := ka
  obtain ⟨hB, hBk⟩ := kb
  exact ⟨_, w_both _ (no_fix _ rfl) 4 ⟨by decide, by decide⟩ rfl (k32 hBk) (reg_RMb ⟨r1, r2⟩) hB (.inl rfl), fun z => by simp [waysL, fmsF, expF, fK, addF, nmF, wayF, opW, codeB, mW, b1, b4, bothW, sumF, turF, onReg, onImm, onZ, isR0, hBk]⟩
 ·skip
  obtain ⟨hA, hAk⟩ := ka
  obtain ⟨s, s1, s2, rfl⟩ := kb
  exact ⟨_, w_both _ (no_fix _ rfl) 4 ⟨by decide, by decide⟩ rfl rfl hA (reg_RMb ⟨s1, s2⟩) (.inr rfl), fun z => by simp [waysL, fmsF, expF, fK, addF, nmF, wayF, opW, codeB, mW, b1, b4, bothW, sumF, turF, onReg, onImm, onZ, isR0, hAk]⟩
 ·skip
  obtain ⟨hA, hAk⟩ := ka
  obtain ⟨n, n1, n2, rfl⟩ := kb
  cases hf : fitI n
  ·skip
   exact ⟨_, w_imm_ff _ (no_fix _ rfl) 4 ⟨by decide, by decide⟩ rfl rfl (by simp [isR0, hAk]) hf hA ⟨n1, n2⟩, fun z => by simp [waysL, fmsF, expF, fK, addF, nmF, wayF, opW, codeB, mW, b1, b4, bothW, sumF, turF, onReg, onImm, onZ, isR0, hAk, hf]⟩
  ·skip
   exact ⟨_, w_imm_ft _ (no_fix _ rfl) 4 ⟨by decide, by decide⟩ rfl rfl (by simp [isR0, hAk]) hf hA ⟨n1, n2⟩, fun z => by simp [waysL, fmsF, expF, fK, addF, nmF, wayF, opW, codeB, mW, b1, b4, bothW, sumF, turF, onReg, onImm, onZ, isR0, hAk, hf]⟩
theorem wy_8 : WyOp 8 := by
 intro c A B rep l hi hA hB
 obtain ⟨hr, hc⟩ := isB_parts hi
 obtain ⟨p, hp, ka, kb⟩ := allowed hi hA hB
 rw [show pairs 8 = [(0, 0), (0, 1), (0, 2), (2, 0), (2, 1)] by kernel_rfl] at hp
 clear hi
 obtain rfl : rep = false := by cases rep; rfl; cases hr
 obtain rfl := knows_no rfl hc
 simp only [List.mem_cons, List.not_mem_nil, or_false] at hp
 rcases hp with rfl | rfl | rfl | rfl | rfl
 ·skip
  obtain ⟨r, r1, r2, rfl⟩ := ka
  obtain ⟨s, s1, s2, rfl⟩ := kb
  exact ⟨_, w_both _ (no_fix _ rfl) 5 ⟨by decide, by decide⟩ rfl rfl (reg_RMb ⟨r1, r2⟩) (reg_RMb ⟨s1, s2⟩) (.inl rfl), fun z => by simp [waysL, fmsF, expF, fK, addF, nmF, wayF, opW, codeB, mW, b1, b4, bothW, sumF, turF, onReg, onImm, onZ, isR0]⟩
 ·skip
  obtain ⟨r, r1, r2, rfl⟩ := ka
  obtain ⟨n, n1, n2, rfl⟩ := kb
  by_cases r0 : r = 0
  ·subst r0
   cases hf : fitI n
   ·skip
    exact ⟨_, w_imm_tf _ (no_fix _ rfl) 5 ⟨by decide, by decide⟩ rfl rfl rfl hf (reg_RMb ⟨r1, r2⟩) ⟨n1, n2⟩, fun z => by simp [waysL, fmsF, expF, fK, addF, nmF, wayF, opW, codeB, mW, b1, b4, bothW, sumF, turF, onReg, onImm, onZ, isR0, hf]⟩
   ·skip
    exact ⟨_, w_imm_tt _ (no_fix _ rfl) 5 ⟨by decide, by decide⟩ rfl rfl rfl hf (reg_RMb ⟨r1, r2⟩) ⟨n1, n2⟩, fun z => by simp [waysL, fmsF, expF, fK, addF, nmF, wayF, opW, codeB, mW, b1, b4, bothW, sumF, turF, onReg, onImm, onZ, isR0, hf]⟩
  ·skip
   cases hf : fitI n
   ·skip
    exact ⟨_, w_imm_ff _ (no_fix _ rfl) 5 ⟨by decide, by decide⟩ rfl rfl (by simp [isR0, onReg, r0]) hf (reg_RMb ⟨r1, r2⟩) ⟨n1, n2⟩, fun z => by simp [waysL, fmsF, expF, fK, addF, nmF, wayF, opW, codeB, mW, b1, b4, bothW, sumF, turF, onReg, onImm, onZ, isR0, hf, r0]⟩
   ·skip
    exact ⟨_, w_imm_ft _ (no_fix _ rfl) 5 ⟨by decide, by decide⟩ rfl rfl (by simp [isR0, onReg, r0]) hf (reg_RMb ⟨r1, r2⟩) ⟨n1, n2⟩, fun z => by simp [waysL, fmsF, expF, fK, addF, nmF, wayF, opW, codeB, mW, b1, b4, bothW, sumF, turF, onReg, onImm, onZ, isR0, hf, r0]⟩
 ·skip
  obtain ⟨r, r1, r2, rfl⟩ := ka
  obtain ⟨hB, hBk⟩ := kb
  exact ⟨_, w_both _ (no_fix _ rfl) 5 ⟨by decide, by decide⟩ rfl (k32 hBk) (reg_RMb ⟨r1, r2⟩) hB (.inl rfl), fun z => by simp [waysL, fmsF, expF, fK, addF, nmF, wayF, opW, codeB, mW, b1, b4, bothW, sumF, turF, onReg, onImm, onZ, isR0, hBk]⟩
 ·skip
  obtain ⟨hA, hAk⟩ := ka
  obtain ⟨s, s1, s2, rfl⟩ := kb
  exact ⟨_, w_both _ (no_fix _ rfl) 5 ⟨by decide, by decide⟩ rfl rfl hA (reg_RMb ⟨s1, s2⟩) (.inr rfl), fun z => by simp [waysL, fmsF, expF, fK, addF, nmF, wayF, opW, codeB, mW, b1, b4, bothW, sumF, turF, onReg, onImm, onZ, isR0, hAk]⟩
 ·skip
  obtain ⟨hA, hAk⟩ := ka
  obtain ⟨n, n1, n2, rfl⟩ := kb
  cases hf : fitI n
  ·skip
   exact ⟨_, w_imm_ff _ (no_fix _ rfl) 5 ⟨by decide, by decide⟩ rfl rfl (by simp [isR0, hAk]) hf hA ⟨n1, n2⟩, fun z => by simp [waysL, fmsF, expF, fK, addF, nmF, wayF, opW, codeB, mW, b1, b4, bothW, sumF, turF, onReg, onImm, onZ, isR0, hAk, hf]⟩
  ·skip
   exact ⟨_, w_imm_ft _ (no_fix _ rfl) 5 ⟨by decide, by decide⟩ rfl rfl (by simp [isR0, hAk]) hf hA ⟨n1, n2⟩, fun z => by simp [waysL, fmsF, expF, fK, addF, nmF, wayF, opW, codeB, mW, b1, b4, bothW, sumF, turF, onReg, onImm, onZ, isR0, hAk, hf]⟩
theorem wy_9 : WyOp 9 := by
 intro c A B rep l hi hA hB
 obtain ⟨hr, hc⟩ := isB_parts hi
 obtain ⟨p, hp, ka, kb⟩ := allowed hi hA hB
 rw [show pairs 9 = [(0, 0), (0, 1), (0, 2), (2, 0), (2, 1)] by kernel_rfl] at hp
 clear hi
 obtain rfl : rep = false := by cases rep; rfl; cases hr
 obtain rfl := knows_no rfl hc
 simp only [List.mem_cons, List.not_mem_nil, or_false] at hp
 rcases hp with rfl | rfl | rfl | rfl | rfl
 ·skip
  obtain ⟨r, r1, r2, rfl⟩ := ka
  obtain ⟨s, s1, s2, rfl⟩ := kb
  exact ⟨_, w_both _ (no_fix _ rfl) 6 ⟨by decide, by decide⟩ rfl rfl (reg_RMb ⟨r1, r2⟩) (reg_RMb ⟨s1, s2⟩) (.inl rfl), fun z => by simp [waysL, fmsF, expF, fK, addF, nmF, wayF, opW, codeB, mW, b1, b4, bothW, sumF, turF, onReg, onImm, onZ, isR0]⟩
 ·skip
  obtain ⟨r, r1, r2, rfl⟩ := ka
  obtain ⟨n, n1, n2, rfl⟩ := kb
  by_cases r0 : r = 0
  ·subst r0
   cases hf : fitI n
   ·skip
    exact ⟨_, w_imm_tf _ (no_fix _ rfl) 6 ⟨by decide, by decide⟩ rfl rfl rfl hf (reg_RMb ⟨r1, r2⟩) ⟨n1, n2⟩, fun z => by simp [waysL, fmsF, expF, fK, addF, nmF, wayF, opW, codeB, mW, b1, b4, bothW, sumF, turF, onReg, onImm, onZ, isR0, hf]⟩
   ·skip
    exact ⟨_, w_imm_tt _ (no_fix _ rfl) 6 ⟨by decide, by decide⟩ rfl rfl rfl hf (reg_RMb ⟨r1, r2⟩) ⟨n1, n2⟩, fun z => by simp [waysL, fmsF, expF, fK, addF, nmF, wayF, opW, codeB, mW, b1, b4, bothW, sumF, turF, onReg, onImm, onZ, isR0, hf]⟩
  ·skip
   cases hf : fitI n
   ·skip
    exact ⟨_, w_imm_ff _ (no_fix _ rfl) 6 ⟨by decide, by decide⟩ rfl rfl (by simp [isR0, onReg, r0]) hf (reg_RMb ⟨r1, r2⟩) ⟨n1, n2⟩, fun z => by simp [waysL, fmsF, expF, fK, addF, nmF, wayF, opW, codeB, mW, b1, b4, bothW, sumF, turF, onReg, onImm, onZ, isR0, hf, r0]⟩
   ·skip
    exact ⟨_, w_imm_ft _ (no_fix _ rfl) 6 ⟨by decide, by decide⟩ rfl rfl (by simp [isR0, onReg, r0]) hf (reg_RMb ⟨r1, r2⟩) ⟨n1, n2⟩, fun z => by simp [waysL, fmsF, expF, fK, addF, nmF, wayF, opW, codeB, mW, b1, b4, bothW, sumF, turF, onReg, onImm, onZ, isR0, hf, r0]⟩
 ·skip
  obtain ⟨r, r1, r2, rfl⟩ := ka
  obtain ⟨hB, hBk⟩ := kb
  exact ⟨_, w_both _ (no_fix _ rfl) 6 ⟨by decide, by decide⟩ rfl (k32 hBk) (reg_RMb ⟨r1, r2⟩) hB (.inl rfl), fun z => by simp [waysL, fmsF, expF, fK, addF, nmF, wayF, opW, codeB, mW, b1, b4, bothW, sumF, turF, onReg, onImm, onZ, isR0, hBk]⟩
 ·skip
  obtain ⟨hA, hAk⟩ := ka
  obtain ⟨s, s1, s2, rfl⟩ := kb
  exact ⟨_, w_both _ (no_fix _ rfl) 6 ⟨by decide, by decide⟩ rfl rfl hA (reg_RMb ⟨s1, s2⟩) (.inr rfl), fun z => by simp [waysL, fmsF, expF, fK, addF, nmF, wayF, opW, codeB, mW, b1, b4, bothW, sumF, turF, onReg, onImm, onZ, isR0, hAk]⟩
 ·skip
  obtain ⟨hA, hAk⟩ := ka
  obtain ⟨n, n1, n2, rfl⟩ := kb
  cases hf : fitI n
  ·skip
   exact ⟨_, w_imm_ff _ (no_fix _ rfl) 6 ⟨by decide, by decide⟩ rfl rfl (by simp [isR0, hAk]) hf hA ⟨n1, n2⟩, fun z => by simp [waysL, fmsF, expF, fK, addF, nmF, wayF, opW, codeB, mW, b1, b4, bothW, sumF, turF, onReg, onImm, onZ, isR0, hAk, hf]⟩
  ·skip
   exact ⟨_, w_imm_ft _ (no_fix _ rfl) 6 ⟨by decide, by decide⟩ rfl rfl (by simp [isR0, hAk]) hf hA ⟨n1, n2⟩, fun z => by simp [waysL, fmsF, expF, fK, addF, nmF, wayF, opW, codeB, mW, b1, b4, bothW, sumF, turF, onReg, onImm, onZ, isR0, hAk, hf]⟩
theorem wy_10 : WyOp 10 := by
 intro c A B rep l hi hA hB
 obtain ⟨hr, hc⟩ := isB_parts hi
 obtain ⟨p, hp, ka, kb⟩ := allowed hi hA hB
 rw [show pairs 10 = [(0, 0), (0, 1), (0, 2), (2, 0), (2, 1)] by kernel_rfl] at hp
 clear hi
 obtain rfl : rep = false := by cases rep; rfl; cases hr
 obtain rfl := knows_no rfl hc
 simp only [List.mem_cons, List.not_mem_nil, or_false] at hp
 rcases hp with rfl | rfl | rfl | rfl | rfl
 ·skip
  obtain ⟨r, r1, r2, rfl⟩ := ka
  obtain ⟨s, s1, s2, rfl⟩ := kb
  exact ⟨_, w_both _ (no_fix _ rfl) 7 ⟨by decide, by decide⟩ rfl rfl (reg_RMb ⟨r1, r2⟩) (reg_RMb ⟨s1, s2⟩) (.inl rfl), fun z => by simp [waysL, fmsF, expF, fK, addF, nmF, wayF, opW, codeB, mW, b1, b4, bothW, sumF, turF, onReg, onImm, onZ, isR0]⟩
 ·skip
  obtain ⟨r, r1, r2, rfl⟩ := ka
  obtain ⟨n, n1, n2, rfl⟩ := kb
  by_cases r0 : r = 0
  ·subst r0
   cases hf : fitI n
   ·skip
    exact ⟨_, w_imm_tf _ (no_fix _ rfl) 7 ⟨by decide, by decide⟩ rfl rfl rfl hf (reg_RMb ⟨r1, r2⟩) ⟨n1, n2⟩, fun z => by simp [waysL, fmsF, expF, fK, addF, nmF, wayF, opW, codeB, mW, b1, b4, bothW, sumF, turF, onReg, onImm, onZ, isR0, hf]⟩
   ·skip
    exact ⟨_, w_imm_tt _ (no_fix _ rfl) 7 ⟨by decide, by decide⟩ rfl rfl rfl hf (reg_RMb ⟨r1, r2⟩) ⟨n1, n2⟩, fun z => by simp [waysL, fmsF, expF, fK, addF, nmF, wayF, opW, codeB, mW, b1, b4, bothW, sumF, turF, onReg, onImm, onZ, isR0, hf]⟩
  ·skip
   cases hf : fitI n
   ·skip
    exact ⟨_, w_imm_ff _ (no_fix _ rfl) 7 ⟨by decide, by decide⟩ rfl rfl (by simp [isR0, onReg, r0]) hf (reg_RMb ⟨r1, r2⟩) ⟨n1, n2⟩, fun z => by simp [waysL, fmsF, expF, fK, addF, nmF, wayF, opW, codeB, mW, b1, b4, bothW, sumF, turF, onReg, onImm, onZ, isR0, hf, r0]⟩
   ·skip
    exact ⟨_, w_imm_ft _ (no_fix _ rfl) 7 ⟨by decide, by decide⟩ rfl rfl (by simp [isR0, onReg, r0]) hf (reg_RMb ⟨r1, r2⟩) ⟨n1, n2⟩, fun z => by simp [waysL, fmsF, expF, fK, addF, nmF, wayF, opW, codeB, mW, b1, b4, bothW, sumF, turF, onReg, onImm, onZ, isR0, hf, r0]⟩
 ·skip
  obtain ⟨r, r1, r2, rfl⟩ := ka
  obtain ⟨hB, hBk⟩ := kb
  exact ⟨_, w_both _ (no_fix _ rfl) 7 ⟨by decide, by decide⟩ rfl (k32 hBk) (reg_RMb ⟨r1, r2⟩) hB (.inl rfl), fun z => by simp [waysL, fmsF, expF, fK, addF, nmF, wayF, opW, codeB, mW, b1, b4, bothW, sumF, turF, onReg, onImm, onZ, isR0, hBk]⟩
 ·skip
  obtain ⟨hA, hAk⟩ := ka
  obtain ⟨s, s1, s2, rfl⟩ := kb
  exact ⟨_, w_both _ (no_fix _ rfl) 7 ⟨by decide, by decide⟩ rfl rfl hA (reg_RMb ⟨s1, s2⟩) (.inr rfl), fun z => by simp [waysL, fmsF, expF, fK, addF, nmF, wayF, opW, codeB, mW, b1, b4, bothW, sumF, turF, onReg, onImm, onZ, isR0, hAk]⟩
 ·skip
  obtain ⟨hA, hAk⟩ := ka
  obtain ⟨n, n1, n2, rfl⟩ := kb
  cases hf : fitI n
  ·skip
   exact ⟨_, w_imm_ff _ (no_fix _ rfl) 7 ⟨by decide, by decide⟩ rfl rfl (by simp [isR0, hAk]) hf hA ⟨n1, n2⟩, fun z => by simp [waysL, fmsF, expF, fK, addF, nmF, wayF, opW, codeB, mW, b1, b4, bothW, sumF, turF, onReg, onImm, onZ, isR0, hAk, hf]⟩
  ·skip
   exact ⟨_, w_imm_ft _ (no_fix _ rfl) 7 ⟨by decide, by decide⟩ rfl rfl (by simp [isR0, hAk]) hf hA ⟨n1, n2⟩, fun z => by simp [waysL, fmsF, expF, fK, addF, nmF, wayF, opW, codeB, mW, b1, b4, bothW, sumF, turF, onReg, onImm, onZ, isR0, hAk, hf]⟩
theorem wy_21 : WyOp 21 := by
 intro c A B rep l hi hA hB
 obtain ⟨hr, hc⟩ := isB_parts hi
 obtain ⟨p, hp, ka, kb⟩ := allowed hi hA hB
 rw [show pairs 21 = [(0, 0), (0, 1), (2, 0), (2, 1)] by kernel_rfl] at hp
 clear hi
 obtain rfl : rep = false := by cases rep; rfl; cases hr
 obtain rfl := knows_no rfl hc
 simp only [List.mem_cons, List.not_mem_nil, or_false] at hp
 rcases hp with rfl | rfl | rfl | rfl
 ·skip
  obtain ⟨r, r1, r2, rfl⟩ := ka
  obtain ⟨s, s1, s2, rfl⟩ := kb
  exact ⟨_, w_shr _ (no_fix _ rfl) 0 ⟨by decide, by decide⟩ rfl rfl rfl (reg_RMb ⟨r1, r2⟩), fun z => by simp [waysL, fmsF, expF, fK, addF, nmF, wayF, opW, codeB, mW, b1, b4, bothW, sumF, turF, onReg, onImm, onZ, isR0]⟩
 ·skip
  obtain ⟨r, r1, r2, rfl⟩ := ka
  obtain ⟨n, n1, n2, rfl⟩ := kb
  cases hf : (n == 1)
  ·skip
   exact ⟨_, w_shn _ (no_fix _ rfl) 0 ⟨by decide, by decide⟩ rfl rfl rfl hf (reg_RMb ⟨r1, r2⟩) ⟨n1, n2⟩, fun z => by simp [waysL, fmsF, expF, fK, addF, nmF, wayF, opW, codeB, mW, b1, b4, bothW, sumF, turF, onReg, onImm, onZ, isR0, hf]⟩
  ·skip
   exact ⟨_, w_sh1 _ (no_fix _ rfl) 0 ⟨by decide, by decide⟩ rfl rfl rfl hf (reg_RMb ⟨r1, r2⟩) ⟨n1, n2⟩, fun z => by simp [waysL, fmsF, expF, fK, addF, nmF, wayF, opW, codeB, mW, b1, b4, bothW, sumF, turF, onReg, onImm, onZ, isR0, hf]⟩
 ·skip
  obtain ⟨hA, hAk⟩ := ka
  obtain ⟨s, s1, s2, rfl⟩ := kb
  exact ⟨_, w_shr _ (no_fix _ rfl) 0 ⟨by decide, by decide⟩ rfl rfl rfl hA, fun z => by simp [waysL, fmsF, expF, fK, addF, nmF, wayF, opW, codeB, mW, b1, b4, bothW, sumF, turF, onReg, onImm, onZ, isR0, hAk]⟩
 ·skip
  obtain ⟨hA, hAk⟩ := ka
  obtain ⟨n, n1, n2, rfl⟩ := kb
  cases hf : (n == 1)
  ·skip
   exact ⟨_, w_shn _ (no_fix _ rfl) 0 ⟨by decide, by decide⟩ rfl rfl rfl hf hA ⟨n1, n2⟩, fun z => by simp [waysL, fmsF, expF, fK, addF, nmF, wayF, opW, codeB, mW, b1, b4, bothW, sumF, turF, onReg, onImm, onZ, isR0, hAk, hf]⟩
  ·skip
   exact ⟨_, w_sh1 _ (no_fix _ rfl) 0 ⟨by decide, by decide⟩ rfl rfl rfl hf hA ⟨n1, n2⟩, fun z => by simp [waysL, fmsF, expF, fK, addF, nmF, wayF, opW, codeB, mW, b1, b4, bothW, sumF, turF, onReg, onImm, onZ, isR0, hAk, hf]⟩
theorem wy_22 : WyOp 22 := by
 intro c A B rep l hi hA hB
 obtain ⟨hr, hc⟩ := isB_parts hi
 obtain ⟨p, hp, ka, kb⟩ := allowed hi hA hB
 rw [show pairs 22 = [(0, 0), (0, 1), (2, 0), (2, 1)] by kernel_rfl] at hp
 clear hi
 obtain rfl : rep = false := by cases rep; rfl; cases hr
 obtain rfl := knows_no rfl hc
 simp only [List.mem_cons, List.not_mem_nil, or_false] at hp
 rcases hp with rfl | rfl | rfl | rfl
 ·skip
  obtain ⟨r, r1, r2, rfl⟩ := ka
  obtain ⟨s, s1, s2, rfl⟩ := kb
  exact ⟨_, w_shr _ (no_fix _ rfl) 1 ⟨by decide, by decide⟩ rfl rfl rfl (reg_RMb ⟨r1, r2⟩), fun z => by simp [waysL, fmsF, expF, fK, addF, nmF, wayF, opW, codeB, mW, b1, b4, bothW, sumF, turF, onReg, onImm, onZ, isR0]⟩
 ·skip
  obtain ⟨r, r1, r2, rfl⟩ := ka
  obtain ⟨n, n1, n2, rfl⟩ := kb
  cases hf : (n == 1)
  ·skip
   exact ⟨_, w_shn _ (no_fix _ rfl) 1 ⟨by decide, by decide⟩ rfl rfl rfl hf (reg_RMb ⟨r1, r2⟩) ⟨n1, n2⟩, fun z => by simp [waysL, fmsF, expF, fK, addF, nmF, wayF, opW, codeB, mW, b1, b4, bothW, sumF, turF, onReg, onImm, onZ, isR0, hf]⟩
  ·skip
   exact ⟨_, w_sh1 _ (no_fix _ rfl) 1 ⟨by decide, by decide⟩ rfl rfl rfl hf (reg_RMb ⟨r1, r2⟩) ⟨n1, n2⟩, fun z => by simp [waysL, fmsF, expF, fK, addF, nmF, wayF, opW, codeB, mW, b1, b4, bothW, sumF, turF, onReg, onImm, onZ, isR0, hf]⟩
 ·skip
  obtain ⟨hA, hAk⟩ := ka
  obtain ⟨s, s1, s2, rfl⟩ := kb
  exact ⟨_, w_shr _ (no_fix _ rfl) 1 ⟨by decide, by decide⟩ rfl rfl rfl hA, fun z => by simp [waysL, fmsF, expF, fK, addF, nmF, wayF, opW, codeB, mW, b1, b4, bothW, sumF, turF, onReg, onImm, onZ, isR0, hAk]⟩
 ·skip
  obtain ⟨hA, hAk⟩ := ka
  obtain ⟨n, n1, n2, rfl⟩ := kb
  cases hf : (n == 1)
  ·skip
   exact ⟨_, w_shn _ (no_fix _ rfl) 1 ⟨by decide, by decide⟩ rfl rfl rfl hf hA ⟨n1, n2⟩, fun z => by simp [waysL, fmsF, expF, fK, addF, nmF, wayF, opW, codeB, mW, b1, b4, bothW, sumF, turF, onReg, onImm, onZ, isR0, hAk, hf]⟩
  ·skip
   exact ⟨_, w_sh1 _ (no_fix _ rfl) 1 ⟨by decide, by decide⟩ rfl rfl rfl hf hA ⟨n1, n2⟩, fun z => by simp [waysL, fmsF, expF, fK, addF, nmF, wayF, opW, codeB, mW, b1, b4, bothW, sumF, turF, onReg, onImm, onZ, isR0, hAk, hf]⟩
theorem wy_23 : WyOp 23 := by
 intro c A B rep l hi hA hB
 obtain ⟨hr, hc⟩ := isB_parts hi
 obtain ⟨p, hp, ka, kb⟩ := allowed hi hA hB
 rw [show pairs 23 = [(0, 0), (0, 1), (2, 0), (2, 1)] by kernel_rfl] at hp
 clear hi
 obtain rfl : rep = false := by cases rep; rfl; cases hr
 obtain rfl := knows_no rfl hc
 simp only [List.mem_cons, List.not_mem_nil, or_false] at hp
 rcases hp with rfl | rfl | rfl | rfl
 ·skip
  obtain ⟨r, r1, r2, rfl⟩ := ka
  obtain ⟨s, s1, s2, rfl⟩ := kb
  exact ⟨_, w_shr _ (no_fix _ rfl) 4 ⟨by decide, by decide⟩ rfl rfl rfl (reg_RMb ⟨r1, r2⟩), fun z => by simp [waysL, fmsF, expF, fK, addF, nmF, wayF, opW, codeB, mW, b1, b4, bothW, sumF, turF, onReg, onImm, onZ, isR0]⟩
 ·skip
  obtain ⟨r, r1, r2, rfl⟩ := ka
  obtain ⟨n, n1, n2, rfl⟩ := kb
  cases hf : (n == 1)
  ·skip
   exact ⟨_, w_shn _ (no_fix _ rfl) 4 ⟨by decide, by decide⟩ rfl rfl rfl hf (reg_RMb ⟨r1, r2⟩) ⟨n1, n2⟩, fun z => by simp [waysL, fmsF, expF, fK, addF, nmF, wayF, opW, codeB, mW, b1, b4, bothW, sumF, turF, onReg, onImm, onZ, isR0, hf]⟩
  ·skip
   exact ⟨_, w_sh1 _ (no_fix _ rfl) 4 ⟨by decide, by decide⟩ rfl rfl rfl hf (reg_RMb ⟨r1, r2⟩) ⟨n1, n2⟩, fun z => by simp [waysL, fmsF, expF, fK, addF, nmF, wayF, opW, codeB, mW, b1, b4, bothW, sumF, turF, onReg, onImm, onZ, isR0, hf]⟩
 ·skip
  obtain ⟨hA, hAk⟩ := ka
  obtain ⟨s, s1, s2, rfl⟩ := kb
  exact ⟨_, w_shr _ (no_fix _ rfl) 4 ⟨by decide, by decide⟩ rfl rfl rfl hA, fun z => by simp [waysL, fmsF, expF, fK, addF, nmF, wayF, opW, codeB, mW, b1, b4, bothW, sumF, turF, onReg, onImm, onZ, isR0, hAk]⟩
 ·skip
  obtain ⟨hA, hAk⟩ := ka
  obtain ⟨n, n1, n2, rfl⟩ := kb
  cases hf : (n == 1)
  ·skip
   exact ⟨_, w_shn _ (no_fix _ rfl) 4 ⟨by decide, by decide⟩ rfl rfl rfl hf hA ⟨n1, n2⟩, fun z => by simp [waysL, fmsF, expF, fK, addF, nmF, wayF, opW, codeB, mW, b1, b4, bothW, sumF, turF, onReg, onImm, onZ, isR0, hAk, hf]⟩
  ·skip
   exact ⟨_, w_sh1 _ (no_fix _ rfl) 4 ⟨by decide, by decide⟩ rfl rfl rfl hf hA ⟨n1, n2⟩, fun z => by simp [waysL, fmsF, expF, fK, addF, nmF, wayF, opW, codeB, mW, b1, b4, bothW, sumF, turF, onReg, onImm, onZ, isR0, hAk, hf]⟩
theorem wy_24 : WyOp 24 := by
 intro c A B rep l hi hA hB
 obtain ⟨hr, hc⟩ := isB_parts hi
 obtain ⟨p, hp, ka, kb⟩ := allowed hi hA hB
 rw [show pairs 24 = [(0, 0), (0, 1), (2, 0), (2, 1)] by kernel_rfl] at hp
 clear hi
 obtain rfl : rep = false := by cases rep; rfl; cases hr
 obtain rfl := knows_no rfl hc
 simp only [List.mem_cons, List.not_mem_nil, or_false] at hp
 rcases hp with rfl | rfl | rfl | rfl
 ·skip
  obtain ⟨r, r1, r2, rfl⟩ := ka
  obtain ⟨s, s1, s2, rfl⟩ := kb
  exact ⟨_, w_shr _ (no_fix _ rfl) 5 ⟨by decide, by decide⟩ rfl rfl rfl (reg_RMb ⟨r1, r2⟩), fun z => by simp [waysL, fmsF, expF, fK, addF, nmF, wayF, opW, codeB, mW, b1, b4, bothW, sumF, turF, onReg, onImm, onZ, isR0]⟩
 ·skip
  obtain ⟨r, r1, r2, rfl⟩ := ka
  obtain ⟨n, n1, n2, rfl⟩ := kb
  cases hf : (n == 1)
  ·skip
   exact ⟨_, w_shn _ (no_fix _ rfl) 5 ⟨by decide, by decide⟩ rfl rfl rfl hf (reg_RMb ⟨r1, r2⟩) ⟨n1, n2⟩, fun z => by simp [waysL, fmsF, expF, fK, addF, nmF, wayF, opW, codeB, mW, b1, b4, bothW, sumF, turF, onReg, onImm, onZ, isR0, hf]⟩
  ·skip
   exact ⟨_, w_sh1 _ (no_fix _ rfl) 5 ⟨by decide, by decide⟩ rfl rfl rfl hf (reg_RMb ⟨r1, r2⟩) ⟨n1, n2⟩, fun z => by simp [waysL, fmsF, expF, fK, addF, nmF, wayF, opW, codeB, mW, b1, b4, bothW, sumF, turF, onReg, onImm, onZ, isR0, hf]⟩
 ·skip
  obtain ⟨hA, hAk⟩ := ka
  obtain ⟨s, s1, s2, rfl⟩ := kb
  exact ⟨_, w_shr _ (no_fix _ rfl) 5 ⟨by decide, by decide⟩ rfl rfl rfl hA, fun z => by simp [waysL, fmsF, expF, fK, addF, nmF, wayF, opW, codeB, mW, b1, b4, bothW, sumF, turF, onReg, onImm, onZ, isR0, hAk]⟩
 ·skip
  obtain ⟨hA, hAk⟩ := ka
  obtain ⟨n, n1, n2, rfl⟩ := kb
  cases hf : (n == 1)
  ·skip
   exact ⟨_, w_shn _ (no_fix _ rfl) 5 ⟨by decide, by decide⟩ rfl rfl rfl hf hA ⟨n1, n2⟩, fun z => by simp [waysL, fmsF, expF, fK, addF, nmF, wayF, opW, codeB, mW, b1, b4, bothW, sumF, turF, onReg, onImm, onZ, isR0, hAk, hf]⟩
  ·skip
   exact ⟨_, w_sh1 _ (no_fix _ rfl) 5 ⟨by decide, by decide⟩ rfl rfl rfl hf hA ⟨n1, n2⟩, fun z => by simp [waysL, fmsF, expF, fK, addF, nmF, wayF, opW, codeB, mW, b1, b4, bothW, sumF, turF, onReg, onImm, onZ, isR0, hAk, hf]⟩
theorem wy_25 : WyOp 25 := by
 intro c A B rep l hi hA hB
 obtain ⟨hr, hc⟩ := isB_parts hi
 obtain ⟨p, hp, ka, kb⟩ := allowed hi hA hB
 rw [show pairs 25 = [(0, 0), (0, 1), (2, 0), (2, 1)] by kernel_rfl] at hp
 clear hi
 obtain rfl : rep = false := by cases rep; rfl; cases hr
 obtain rfl := knows_no rfl hc
 simp only [List.mem_cons, List.not_mem_nil, or_false] at hp
 rcases hp with rfl | rfl | rfl | rfl
 ·skip
  obtain ⟨r, r1, r2, rfl⟩ := ka
  obtain ⟨s, s1, s2, rfl⟩ := kb
  exact ⟨_, w_shr _ (no_fix _ rfl) 7 ⟨by decide, by decide⟩ rfl rfl rfl (reg_RMb ⟨r1, r2⟩), fun z => by simp [waysL, fmsF, expF, fK, addF, nmF, wayF, opW, codeB, mW, b1, b4, bothW, sumF, turF, onReg, onImm, onZ, isR0]⟩
 ·skip
  obtain ⟨r, r1, r2, rfl⟩ := ka
  obtain ⟨n, n1, n2, rfl⟩ := kb
  cases hf : (n == 1)
  ·skip
   exact ⟨_, w_shn _ (no_fix _ rfl) 7 ⟨by decide, by decide⟩ rfl rfl rfl hf (reg_RMb ⟨r1, r2⟩) ⟨n1, n2⟩, fun z => by simp [waysL, fmsF, expF, fK, addF, nmF, wayF, opW, codeB, mW, b1, b4, bothW, sumF, turF, onReg, onImm, onZ, isR0, hf]⟩
  ·skip
   exact ⟨_, w_sh1 _ (no_fix _ rfl) 7 ⟨by decide, by decide⟩ rfl rfl rfl hf (reg_RMb ⟨r1, r2⟩) ⟨n1, n2⟩, fun z => by simp [waysL, fmsF, expF, fK, addF, nmF, wayF, opW, codeB, mW, b1, b4, bothW, sumF, turF, onReg, onImm, onZ, isR0, hf]⟩
 ·skip
  obtain ⟨hA, hAk⟩ := ka
  obtain ⟨s, s1, s2, rfl⟩ := kb
  exact ⟨_, w_shr _ (no_fix _ rfl) 7 ⟨by decide, by decide⟩ rfl rfl rfl hA, fun z => by simp [waysL, fmsF, expF, fK, addF, nmF, wayF, opW, codeB, mW, b1, b4, bothW, sumF, turF, onReg, onImm, onZ, isR0, hAk]⟩
 ·skip
  obtain ⟨hA, hAk⟩ := ka
  obtain ⟨n, n1, n2, rfl⟩ := kb
  cases hf : (n == 1)
  ·skip
   exact ⟨_, w_shn _ (no_fix _ rfl) 7 ⟨by decide, by decide⟩ rfl rfl rfl hf hA ⟨n1, n2⟩, fun z => by simp [waysL, fmsF, expF, fK, addF, nmF, wayF, opW, codeB, mW, b1, b4, bothW, sumF, turF, onReg, onImm, onZ, isR0, hAk, hf]⟩
  ·skip
   exact ⟨_, w_sh1 _ (no_fix _ rfl) 7 ⟨by decide, by decide⟩ rfl rfl rfl hf hA ⟨n1, n2⟩, fun z => by simp [waysL, fmsF, expF, fK, addF, nmF, wayF, opW, codeB, mW, b1, b4, bothW, sumF, turF, onReg, onImm, onZ, isR0, hAk, hf]⟩
theorem wy_47 : WyOp 47 := by
 intro c A B rep l hi hA hB
 obtain ⟨hr, hc⟩ := isB_parts hi
 obtain ⟨p, hp, ka, kb⟩ := allowed hi hA hB
 rw [show pairs 47 = [(2, 3)] by kernel_rfl] at hp
 clear hi
 obtain rfl : rep = false := by cases rep; rfl; cases hr
 obtain rfl := knows_no rfl hc
 simp only [List.mem_cons, List.not_mem_nil, or_false] at hp
 subst hp
 ·skip
  obtain ⟨hA, hAk⟩ := ka
  obtain rfl : B = onZ := kb
  exact ⟨_, w_num _ (no_fix _ rfl) 0 ⟨by decide, by decide⟩ rfl rfl rfl hA, fun z => by simp [waysL, fmsF, expF, fK, addF, nmF, wayF, opW, codeB, mW, b1, b4, bothW, sumF, turF, onReg, onImm, onZ, isR0, hAk]⟩
theorem wy_48 : WyOp 48 := by
 intro c A B rep l hi hA hB
 obtain ⟨hr, hc⟩ := isB_parts hi
 obtain ⟨p, hp, ka, kb⟩ := allowed hi hA hB
 rw [show pairs 48 = [(2, 3)] by kernel_rfl] at hp
 clear hi
 obtain rfl : rep = false := by cases rep; rfl; cases hr
 obtain rfl := knows_no rfl hc
 simp only [List.mem_cons, List.not_mem_nil, or_false] at hp
 subst hp
 ·skip
  obtain ⟨hA, hAk⟩ := ka
  obtain rfl : B = onZ := kb
  exact ⟨_, w_num _ (no_fix _ rfl) 1 ⟨by decide, by decide⟩ rfl rfl rfl hA, fun z => by simp [waysL, fmsF, expF, fK, addF, nmF, wayF, opW, codeB, mW, b1, b4, bothW, sumF, turF, onReg, onImm, onZ, isR0, hAk]⟩
theorem wy_53 : WyOp 53 := by
 intro c A B rep l hi hA hB
 obtain ⟨hr, hc⟩ := isB_parts hi
 obtain ⟨p, hp, ka, kb⟩ := allowed hi hA hB
 rw [show pairs 53 = [(2, 3)] by kernel_rfl] at hp
 clear hi
 obtain rfl : rep = false := by cases rep; rfl; cases hr
 obtain rfl := knows_no rfl hc
 simp only [List.mem_cons, List.not_mem_nil, or_false] at hp
 subst hp
 ·skip
  obtain ⟨hA, hAk⟩ := ka
  obtain rfl : B = onZ := kb
  exact ⟨_, w_num _ (no_fix _ rfl) 2 ⟨by decide, by decide⟩ rfl rfl rfl hA, fun z => by simp [waysL, fmsF, expF, fK, addF, nmF, wayF, opW, codeB, mW, b1, b4, bothW, sumF, turF, onReg, onImm, onZ, isR0, hAk]⟩
theorem wy_49 : WyOp 49 := by
 intro c A B rep l hi hA hB
 obtain ⟨hr, hc⟩ := isB_parts hi
 obtain ⟨p, hp, ka, kb⟩ := allowed hi hA hB
 rw [show pairs 49 = [(2, 3)] by kernel_rfl] at hp
 clear hi
 obtain rfl : rep = false := by cases rep; rfl; cases hr
 obtain rfl := knows_no rfl hc
 simp only [List.mem_cons, List.not_mem_nil, or_false] at hp
 subst hp
 ·skip
  obtain ⟨hA, hAk⟩ := ka
  obtain rfl : B = onZ := kb
  exact ⟨_, w_num _ (no_fix _ rfl) 4 ⟨by decide, by decide⟩ rfl rfl rfl hA, fun z => by simp [waysL, fmsF, expF, fK, addF, nmF, wayF, opW, codeB, mW, b1, b4, bothW, sumF, turF, onReg, onImm, onZ, isR0, hAk]⟩
theorem wy_50 : WyOp 50 := by
 intro c A B rep l hi hA hB
 obtain ⟨hr, hc⟩ := isB_parts hi
 obtain ⟨p, hp, ka, kb⟩ := allowed hi hA hB
 rw [show pairs 50 = [(2, 3)] by kernel_rfl] at hp
 clear hi
 obtain rfl : rep = false := by cases rep; rfl; cases hr
 obtain rfl := knows_no rfl hc
 simp only [List.mem_cons, List.not_mem_nil, or_false] at hp
 subst hp
 ·skip
  obtain ⟨hA, hAk⟩ := ka
  obtain rfl : B = onZ := kb
  exact ⟨_, w_num _ (no_fix _ rfl) 6 ⟨by decide, by decide⟩ rfl rfl rfl hA, fun z => by simp [waysL, fmsF, expF, fK, addF, nmF, wayF, opW, codeB, mW, b1, b4, bothW, sumF, turF, onReg, onImm, onZ, isR0, hAk]⟩
theorem wy_44 : WyOp 44 := by
 intro c A B rep l hi hA hB
 obtain ⟨hr, hc⟩ := isB_parts hi
 obtain ⟨p, hp, ka, kb⟩ := allowed hi hA hB
 rw [show pairs 44 = [(3, 3)] by kernel_rfl] at hp
 clear hi
 obtain rfl : rep = false := by cases rep; rfl; cases hr
 obtain rfl := knows_no rfl hc
 simp only [List.mem_cons, List.not_mem_nil, or_false] at hp
 subst hp
 ·skip
  obtain rfl : A = onZ := ka
  obtain rfl : B = onZ := kb
  exact ⟨_, fun w => w_fix _ [144] (by simp) (by simp) (fun w => fix_44 _ _ _ _ _ w) w, fun z => by simp [waysL, fmsF, expF, fK, addF, nmF, wayF, opW, codeB, mW, b1, b4, bothW, sumF, turF, onReg, onImm, onZ, isR0]⟩
theorem wy_38 : WyOp 38 := by
 intro c A B rep l hi hA hB
 obtain ⟨hr, hc⟩ := isB_parts hi
 obtain ⟨p, hp, ka, kb⟩ := allowed hi hA hB
 rw [show pairs 38 = [(3, 3)] by kernel_rfl] at hp
 clear hi
 obtain rfl : rep = false := by cases rep; rfl; cases hr
 obtain rfl := knows_no rfl hc
 simp only [List.mem_cons, List.not_mem_nil, or_false] at hp
 subst hp
 ·skip
  obtain rfl : A = onZ := ka
  obtain rfl : B = onZ := kb
  exact ⟨_, fun w => w_fix _ [153] (by simp) (by simp) (fun w => fix_38 _ _ _ _ _ w) w, fun z => by simp [waysL, fmsF, expF, fK, addF, nmF, wayF, opW, codeB, mW, b1, b4, bothW, sumF, turF, onReg, onImm, onZ, isR0]⟩
theorem wy_31 : WyOp 31 := by
 intro c A B rep l hi hA hB
 obtain ⟨hr, hc⟩ := isB_parts hi
 obtain ⟨p, hp, ka, kb⟩ := allowed hi hA hB
 rw [show pairs 31 = [(3, 3)] by kernel_rfl] at hp
 clear hi
 obtain rfl : rep = false := by cases rep; rfl; cases hr
 obtain rfl := knows_no rfl hc
 simp only [List.mem_cons, List.not_mem_nil, or_false] at hp
 subst hp
 ·skip
  obtain rfl : A = onZ := ka
  obtain rfl : B = onZ := kb
  exact ⟨_, fun w => w_fix _ [195] (by simp) (by simp) (fun w => fix_31 _ _ _ _ _ w) w, fun z => by simp [waysL, fmsF, expF, fK, addF, nmF, wayF, opW, codeB, mW, b1, b4, bothW, sumF, turF, onReg, onImm, onZ, isR0]⟩
theorem wy_39 : WyOp 39 := by
 intro c A B rep l hi hA hB
 obtain ⟨hr, hc⟩ := isB_parts hi
 obtain ⟨p, hp, ka, kb⟩ := allowed hi hA hB
 rw [show pairs 39 = [(3, 3)] by kernel_rfl] at hp
 clear hi
 obtain rfl : rep = false := by cases rep; rfl; cases hr
 obtain rfl := knows_no rfl hc
 simp only [List.mem_cons, List.not_mem_nil, or_false] at hp
 subst hp
 ·skip
  obtain rfl : A = onZ := ka
  obtain rfl : B = onZ := kb
  exact ⟨_, fun w => w_fix _ [252] (by simp) (by simp) (fun w => fix_39 _ _ _ _ _ w) w, fun z => by simp [waysL, fmsF, expF, fK, addF, nmF, wayF, opW, codeB, mW, b1, b4, bothW, sumF, turF, onReg, onImm, onZ, isR0]⟩
theorem wy_40 : WyOp 40 := by
 intro c A B rep l hi hA hB
 obtain ⟨hr, hc⟩ := isB_parts hi
 obtain ⟨p, hp, ka, kb⟩ := allowed hi hA hB
 rw [show pairs 40 = [(3, 3)] by kernel_rfl] at hp
 clear hi
 obtain rfl : rep = false := by cases rep; rfl; cases hr
 obtain rfl := knows_no rfl hc
 simp only [List.mem_cons, List.not_mem_nil, or_false] at hp
 subst hp
 ·skip
  obtain rfl : A = onZ := ka
  obtain rfl : B = onZ := kb
  exact ⟨_, fun w => w_fix _ [253] (by simp) (by simp) (fun w => fix_40 _ _ _ _ _ w) w, fun z => by simp [waysL, fmsF, expF, fK, addF, nmF, wayF, opW, codeB, mW, b1, b4, bothW, sumF, turF, onReg, onImm, onZ, isR0]⟩
theorem wy_51 : WyOp 51 := by
 intro c A B rep l hi hA hB
 obtain ⟨hr, hc⟩ := isB_parts hi
 obtain ⟨p, hp, ka, kb⟩ := allowed hi hA hB
 rw [show pairs 51 = [(3, 3)] by kernel_rfl] at hp
 clear hi
 obtain rfl : rep = false := by cases rep; rfl; cases hr
 obtain rfl := knows_no rfl hc
 simp only [List.mem_cons, List.not_mem_nil, or_false] at hp
 subst hp
 ·skip
  obtain rfl : A = onZ := ka
  obtain rfl : B = onZ := kb
  exact ⟨_, fun w => w_fix _ [217, 224] (by simp) (by simp) (fun w => fix_51 _ _ _ _ _ w) w, fun z => by simp [waysL, fmsF, expF, fK, addF, nmF, wayF, opW, codeB, mW, b1, b4, bothW, sumF, turF, onReg, onImm, onZ, isR0]⟩
theorem wy_52 : WyOp 52 := by
 intro c A B rep l hi hA hB
 obtain ⟨hr, hc⟩ := isB_parts hi
 obtain ⟨p, hp, ka, kb⟩ := allowed hi hA hB
 rw [show pairs 52 = [(3, 3)] by kernel_rfl] at hp
 clear hi
 obtain rfl : rep = false := by cases rep; rfl; cases hr
 obtain rfl := knows_no rfl hc
 simp only [List.mem_cons, List.not_mem_nil, or_false] at hp
 subst hp
 ·skip
  obtain rfl : A = onZ := ka
  obtain rfl : B = onZ := kb
  exact ⟨_, fun w => w_fix _ [217, 225] (by simp) (by simp) (fun w => fix_52 _ _ _ _ _ w) w, fun z => by simp [waysL, fmsF, expF, fK, addF, nmF, wayF, opW, codeB, mW, b1, b4, bothW, sumF, turF, onReg, onImm, onZ, isR0]⟩
theorem wy_43 : WyOp 43 := by
 intro c A B rep l hi hA hB
 obtain ⟨hr, hc⟩ := isB_parts hi
 obtain ⟨p, hp, ka, kb⟩ := allowed hi hA hB
 rw [show pairs 43 = [(1, 3)] by kernel_rfl] at hp
 obtain rfl : rep = false := by cases rep; rfl; cases hr
 obtain rfl := knows_no rfl hc
 simp only [List.mem_cons, List.not_mem_nil, or_false] at hp
 subst hp
 ·skip
  obtain ⟨m, m1, m2, rfl⟩ := ka
  obtain rfl : B = onZ := kb
  obtain rfl : m = 128 := Decidable.byContradiction fun h => not_taken hi (SA := [16, 48]) (by kernel_rfl) (by rw [cA_imm, if_neg h]; split <;> decide) mem_z
  exact ⟨_, fun w => w_fix _ [205, 128] (by simp) (by simp) (fun w => fix_43 _ _ _ _ _ w) w, fun z => by simp [waysL, fmsF, expF, fK, addF, nmF, wayF, opW, codeB, mW, b1, b4, bothW, sumF, turF, onReg, onImm, onZ, isR0]⟩
theorem wy_29 : WyOp 29 := by
 intro c A B rep l hi hA hB
 obtain ⟨hr, hc⟩ := isB_parts hi
 obtain ⟨p, hp, ka, kb⟩ := allowed hi hA hB
 rw [show pairs 29 = [(0, 3)] by kernel_rfl] at hp
 clear hi
 obtain rfl : rep = false := by cases rep; rfl; cases hr
 obtain rfl := knows_no rfl hc
 simp only [List.mem_cons, List.not_mem_nil, or_false] at hp
 subst hp
 ·skip
  obtain ⟨r, r1, r2, rfl⟩ := ka
  obtain rfl : B = onZ := kb
  have y0 : 88 + r < 256 := by omega
  exact ⟨_, fun w => w_fix _ [88 + r] (by simp) (by simp) (fun w => fix_29 _ _ _ _ _ ⟨r1, r2⟩ w) w, fun z => by simp [waysL, fmsF, expF, fK, addF, nmF, wayF, opW, codeB, mW, b1, b4, bothW, sumF, turF, onReg, onImm, onZ, isR0, y0]⟩
theorem wy_41 : WyOp 41 := by
 intro c A B rep l hi hA hB
 obtain ⟨hr, hc⟩ := isB_parts hi
 obtain ⟨p, hp, ka, kb⟩ := allowed hi hA hB
 rw [show pairs 41 = [(3, 3)] by kernel_rfl] at hp
 clear hi
 obtain rfl := knows_no rfl hc
 simp only [List.mem_cons, List.not_mem_nil, or_false] at hp
 subst hp
 ·skip
  obtain rfl : A = onZ := ka
  obtain rfl : B = onZ := kb
  cases rep
  ·exact ⟨_, fun w => w_fix _ [165] (by simp) (by simp) (fun w => fix_41f _ _ _ _ w) w, fun z => by simp [waysL, fmsF, expF, fK, addF, nmF, wayF, opW, codeB, mW, b1, b4, bothW, sumF, turF, onReg, onImm, onZ, isR0]⟩
  ·exact ⟨_, fun w => w_fix _ [243, 165] (by simp) (by simp) (fun w => fix_41t _ _ _ _ w) w, fun z => by simp [waysL, fmsF, expF, fK, addF, nmF, wayF, opW, codeB, mW, b1, b4, bothW, sumF, turF, onReg, onImm, onZ, isR0]⟩
theorem wy_42 : WyOp 42 := by
 intro c A B rep l hi hA hB
 obtain ⟨hr, hc⟩ := isB_parts hi
 obtain ⟨p, hp, ka, kb⟩ := allowed hi hA hB
 rw [show pairs 42 = [(3, 3)] by kernel_rfl] at hp
 clear hi
 obtain rfl := knows_no rfl hc
 simp only [List.mem_cons, List.not_mem_nil, or_false] at hp
 subst hp
 ·skip
  obtain rfl : A = onZ := ka
  obtain rfl : B = onZ := kb
  cases rep
  ·exact ⟨_, fun w => w_fix _ [171] (by simp) (by simp) (fun w => fix_42f _ _ _ _ w) w, fun z => by simp [waysL, fmsF, expF, fK, addF, nmF, wayF, opW, codeB, mW, b1, b4, bothW, sumF, turF, onReg, onImm, onZ, isR0]⟩
  ·exact ⟨_, fun w => w_fix _ [243, 171] (by simp) (by simp) (fun w => fix_42t _ _ _ _ w) w, fun z => by simp [waysL, fmsF, expF, fK, addF, nmF, wayF, opW, codeB, mW, b1, b4, bothW, sumF, turF, onReg, onImm, onZ, isR0]⟩
theorem wy_any {k : In} (hi : isB k = true) (hA : 0 ≤ k.A.m ∧ k.A.m ≤ 4294967295) (hB : 0 ≤ k.B.m ∧ k.B.m ≤ 4294967295) : Wy 23 k := by
 obtain ⟨op, c, A, B, rep, l⟩ := k
 have h := taken_in hi
 rcases (by omega : op = 1 ∨ op = 2 ∨ op = 3 ∨ op = 4 ∨ op = 5 ∨ op = 6 ∨ op = 7 ∨ op = 8 ∨ op = 9 ∨ op = 10 ∨ op = 11 ∨ op = 12 ∨ op = 13 ∨ op = 14 ∨ op = 15 ∨ op = 16 ∨ op = 17 ∨ op = 18 ∨ op = 19 ∨ op = 20 ∨ op = 21 ∨ op = 22 ∨ op = 23 ∨ op = 24 ∨ op = 25 ∨ op = 26 ∨ op = 27 ∨ op = 28 ∨ op = 29 ∨ op = 30 ∨ op = 31 ∨ op = 32 ∨ op = 33 ∨ op = 34 ∨ op = 35 ∨ op = 36 ∨ op = 37 ∨ op = 38 ∨ op = 39 ∨ op = 40 ∨ op = 41 ∨ op = 42 ∨ op = 43 ∨ op = 44 ∨ op = 45 ∨ op = 46 ∨ op = 47 ∨ op = 48 ∨ op = 49 ∨ op = 50 ∨ op = 51 ∨ op = 52 ∨ op = 53) with rfl | rfl | rfl | rfl | rfl | rfl | rfl | rfl | rfl | rfl | rfl | rfl | rfl | rfl | rfl | rfl | rfl | rfl | rfl | rfl | rfl | rfl | rfl | rfl | rfl | rfl | rfl | rfl | rfl | rfl | rfl | rfl | rfl | rfl | rfl | rfl | rfl | rfl | rfl | rfl | rfl | rfl | rfl | rfl | rfl | rfl | rfl | rfl | rfl | rfl | rfl | rfl | rfl
 ·exact wy_1 hi hA hB
 ·exact wy_2 hi hA hB
 ·exact wy_3 hi hA hB
 ·exact wy_4 hi hA hB
 ·exact wy_5 hi hA hB
 ·exact wy_6 hi hA hB
 ·exact wy_7 hi hA hB
 ·exact wy_8 hi hA hB
 ·exact wy_9 hi hA hB
 ·exact wy_10 hi hA hB
 ·exact wy_11 hi hA hB
 ·exact wy_12 hi hA hB
 ·exact wy_13 hi hA hB
 ·exact wy_14 hi hA hB
 ·exact wy_15 hi hA hB
 ·exact wy_16 hi hA hB
 ·exact wy_17 hi hA hB
 ·exact wy_18 hi hA hB
 ·exact wy_19 hi hA hB
 ·exact wy_20 hi hA hB
 ·exact wy_21 hi hA hB
 ·exact wy_22 hi hA hB
 ·exact wy_23 hi hA hB
 ·exact wy_24 hi hA hB
 ·exact wy_25 hi hA hB
 ·exact wy_26 hi hA hB
 ·exact wy_27 hi hA hB
 ·exact wy_28 hi hA hB
 ·exact wy_29 hi hA hB
 ·exact wy_30 hi hA hB
 ·exact wy_31 hi hA hB
 ·exact wy_32 hi hA hB
 ·exact wy_33 hi hA hB
 ·exact wy_34 hi hA hB
 ·exact wy_35 hi hA hB
 ·exact wy_36 hi hA hB
 ·exact wy_37 hi hA hB
 ·exact wy_38 hi hA hB
 ·exact wy_39 hi hA hB
 ·exact wy_40 hi hA hB
 ·exact wy_41 hi hA hB
 ·exact wy_42 hi hA hB
 ·exact wy_43 hi hA hB
 ·exact wy_44 hi hA hB
 ·exact wy_45 hi hA hB
 ·exact wy_46 hi hA hB
 ·exact wy_47 hi hA hB
 ·exact wy_48 hi hA hB
 ·exact wy_49 hi hA hB
 ·exact wy_50 hi hA hB
 ·exact wy_51 hi hA hB
 ·exact wy_52 hi hA hB
 ·exact wy_53 hi hA hB
end Go.Proofs.YtcgleggdochbeaaDoor
