import Derived.Test.YtbnocincfecmpaaDoorT4
import Derived.Test.YtbnocincfecmpaaDoorT2
import Derived.Test.YtbnocincfecmpaaDoorC10
import Derived.Deep.RegionHeld3
namespace Go.Proofs.YtbnocincfecmpaaDoor
open Go.RowKit
set_option linter.unusedVariables false
set_option linter.unusedSimpArgs false
set_option linter.unusedSectionVars false

theorem keepb {w w1 w2 : World} {p0 p1 p2 p3 p4 : Addr} {v0 v1 v2 v3 v4 : Value} (h : w1.cell? p0 = some v0 ∧ w1.cell? p1 = some v1 ∧ w1.cell? p2 = some v2 ∧ w1.cell? p3 = some v3 ∧ w1.cell? p4 = some v4 ∧ Below w.heap.size w w1)
    (hp0 : p0.spot = none) (hp1 : p1.spot = none) (hp2 : p2.spot = none) (hp3 : p3.spot = none) (hp4 : p4.spot = none) (b : Below w1.heap.size w1 w2) :
    w2.cell? p0 = some v0 ∧ w2.cell? p1 = some v1 ∧ w2.cell? p2 = some v2 ∧ w2.cell? p3 = some v3 ∧ w2.cell? p4 = some v4 ∧ Below w.heap.size w w2 := by
  obtain ⟨h0, h1, h2, h3, h4, hb⟩ := h
  have k : ∀ {p : Addr} {v : Value}, p.spot = none → w1.cell? p = some v → w2.cell? p = some v := fun {p v} hp h => by
    obtain ⟨b', o, s⟩ := p
    simp only at hp
    subst hp
    exact (b.cell (size_of_cell h)).trans h
  exact ⟨k hp0 h0, k hp1 h1, k hp2 h2, k hp3 h3, k hp4 h4, hb.trans (b.mono hb.size)⟩
set_option maxHeartbeats 4000000 in
theorem rtext_in (k : Nat) (h1 : 1 ≤ k) (h2 : k < 47) (d s t i : Int) (hi : -2147483648 ≤ i ∧ i ≤ 2147483647) (h : okF (formN k) d s t i = true) (w : World) :
    Calls Tryd.prog 23 #[wordV k d s t i] w fun e w' => e = .returned (.string (bs (textF (formN k) (nameL k) d s t i))) ∧ Below w.heap.size w w' := by
  have hq := fun w => rIs_in k h1 (by omega) d s t i hi w
  rw [h] at hq
  have hni := fun w => name_idx k h2 w
  have hf := opCases h1 (by omega)
  have ho := fun w => of_any k h1 (by omega) w
  unfold shapeV at ho
  have hfl := fld_run
  have hk : (formN k = 3 → (k : Int) < 11 ∨ (15 : Int) < k) ∧ (formN k = 4 → (11 : Int) ≤ k ∧ (k : Int) ≤ 15) ∧ (formN k = 7 → (15 : Int) < k) := by
    have h : ∀ j : Fin 48, (formN j = 3 → j.val < 11 ∨ 15 < j.val) ∧ (formN j = 4 → 11 ≤ j.val ∧ j.val ≤ 15) ∧ (formN j = 7 → 15 < j.val) := by decide +kernel
    obtain ⟨a1, a2, a3⟩ := h ⟨k, by omega⟩
    exact ⟨fun e => by have := a1 e; simp at this; omega, fun e => by have := a2 e; simp at this; omega, fun e => by have := a3 e; simp at this; omega⟩
  obtain ⟨gd, gs, gt, -, -, -⟩ := okF_regs h
  have gd := (regL_iff _ _).1 gd
  have gs := (regL_iff _ _).1 gs
  have gt := (regL_iff _ _).1 gt
  have gd : 0 ≤ d ∧ d < 32 := ⟨gd.1, gd.2.1⟩
  have gs : 0 ≤ s ∧ s < 32 := ⟨gs.1, gs.2.1⟩
  have gt : 0 ≤ t ∧ t < 32 := ⟨gt.1, gt.2.1⟩
  have l1 := itoa_len d (by omega) (by omega)
  have l2 := itoa_len s (by omega) (by omega)
  have l3 := itoa_len t (by omega) (by omega)
  have l4 := itoa_len i (by omega) (by omega)
  have l5 := name_len (k := k) (by omega)
  have z1 := bs_size (Lib.itoa d)
  have z2 := bs_size (Lib.itoa s)
  have z3 := bs_size (Lib.itoa t)
  have y1 : (⟨#[120]⟩ : ByteArray) ++ bs (Lib.itoa d) = bs (120 :: Lib.itoa d) := bs_append [120] _
  have y2 : (⟨#[120]⟩ : ByteArray) ++ bs (Lib.itoa s) = bs (120 :: Lib.itoa s) := bs_append [120] _
  have y3 : (⟨#[120]⟩ : ByteArray) ++ bs (Lib.itoa t) = bs (120 :: Lib.itoa t) := bs_append [120] _
  go_enter Tryd.func23, Tryd.ntmps23
  go_wp2_with fail
  refine (hq _).mono ?_
  rintro e w1 ⟨rfl, b1⟩
  have q0 : w1.cell? ⟨w.heap.size, 0, none⟩ = some (.int .i64 k) := own_cell b1 0 _ rfl
  have q1 : w1.cell? ⟨w.heap.size, 1, none⟩ = some (.int .i64 d) := own_cell b1 1 _ rfl
  have q2 : w1.cell? ⟨w.heap.size, 2, none⟩ = some (.int .i64 s) := own_cell b1 2 _ rfl
  have q3 : w1.cell? ⟨w.heap.size, 3, none⟩ = some (.int .i64 t) := own_cell b1 3 _ rfl
  have q4 : w1.cell? ⟨w.heap.size, 4, none⟩ = some (.int .i32 i) := own_cell b1 4 _ rfl
  have hb := ((Below.refl w.heap.size w).alloc (Nat.le_refl _) _).trans (b1.mono (by simp))
  clear b1
  go_wp2_with fail
  go_region_held3 (fun w' => w'.cell? ⟨w.heap.size, 0, none⟩ = some (.int .i64 k) ∧ w'.cell? ⟨w.heap.size, 1, none⟩ = some (.int .i64 d) ∧ w'.cell? ⟨w.heap.size, 2, none⟩ = some (.int .i64 s) ∧ w'.cell? ⟨w.heap.size, 3, none⟩ = some (.int .i64 t) ∧ w'.cell? ⟨w.heap.size, 4, none⟩ = some (.int .i32 i) ∧ Below w.heap.size w w')
    (first | exact ⟨q0, q1, q2, q3, q4, hb.drew⟩ | assumption | exact keepb (by assumption) rfl rfl rfl rfl rfl (by assumption))
    (first | (go_at_call 48; refine (names_any _).mono ?_; rintro e w' ⟨rfl, bZ⟩))
  rename_i hH
  obtain ⟨q0, q1, q2, q3, q4, hb⟩ := hH
  have cd := fun w => digits_any d (by omega) (by omega) w
  have cs := fun w => digits_any s (by omega) (by omega) w
  have ct := fun w => digits_any t (by omega) (by omega) w
  have ci := fun w => digits_any i (by omega) (by omega) w
  have ci0 := ci
  have hw : wrap64 i = i := by unfold wrap64; omega
  have ci : ∀ w, Calls Tryd.prog 49 #[.int .i64 (wrap64 i)] w fun e w' => e = .returned (.string (bs (Lib.itoa i))) ∧ Below w.heap.size w w' := by rw [hw]; exact ci
  have n1a : ¬ 9223372036854775807 < 1 + (Lib.itoa d).length := by omega
  have n1b : 1 + (Lib.itoa d).length ≤ 9223372036854775807 := by omega
  have n2a : ¬ 9223372036854775807 < 1 + (Lib.itoa s).length := by omega
  have n2b : 1 + (Lib.itoa s).length ≤ 9223372036854775807 := by omega
  have n3a : ¬ 9223372036854775807 < 1 + (Lib.itoa t).length := by omega
  have n3b : 1 + (Lib.itoa t).length ≤ 9223372036854775807 := by omega
  have hw2 : IntKind.i64.wrap i = i := by rw [IntKind.wrap_i64]; omega
  have ci2 : ∀ w, Calls Tryd.prog 49 #[.int .i64 (IntKind.i64.wrap i)] w fun e w' => e = .returned (.string (bs (Lib.itoa i))) ∧ Below w.heap.size w w' := by rw [hw2]; exact ci0
  clear hni hq gd gs gt h h1 h2 hi hw hw2
  go_wp2_with fail
  go_region_held3 (fun w' => w'.cell? ⟨w.heap.size, 0, none⟩ = some (.int .i64 k) ∧ w'.cell? ⟨w.heap.size, 1, none⟩ = some (.int .i64 d) ∧ w'.cell? ⟨w.heap.size, 2, none⟩ = some (.int .i64 s) ∧ w'.cell? ⟨w.heap.size, 3, none⟩ = some (.int .i64 t) ∧ w'.cell? ⟨w.heap.size, 4, none⟩ = some (.int .i32 i) ∧ Below w.heap.size w w')
    (first | with_reducible assumption | with_reducible exact keepb (by assumption) rfl rfl rfl rfl rfl (by assumption) | exact ⟨q0, q1, q2, q3, q4, hb.drew⟩)
    (first | (go_at_call 49; with_reducible refine (cd _).mono ?_; rintro e w' ⟨rfl, bZ⟩) | (go_at_call 49; with_reducible refine (cs _).mono ?_; rintro e w' ⟨rfl, bZ⟩) | (go_at_call 49; with_reducible refine (ct _).mono ?_; rintro e w' ⟨rfl, bZ⟩) | (go_at_call 49; with_reducible refine (ci _).mono ?_; rintro e w' ⟨rfl, bZ⟩) | (go_at_call 49; with_reducible refine (ci2 _).mono ?_; rintro e w' ⟨rfl, bZ⟩) | (go_at_call 49; with_reducible refine (ci0 _).mono ?_; rintro e w' ⟨rfl, bZ⟩))
  rename_i hH
  obtain ⟨q0, q1, q2, q3, q4, hb⟩ := hH
  clear cd cs ct ci ci0 ci2 y1 y2 y3 z1 z2 z3 n1a n1b n2a n2b n3a n3b
  obtain ⟨D, hD⟩ : ∃ D, D = 120 :: Lib.itoa d := ⟨_, rfl⟩
  obtain ⟨S, hS⟩ : ∃ S, S = 120 :: Lib.itoa s := ⟨_, rfl⟩
  obtain ⟨T, hT⟩ : ∃ T, T = 120 :: Lib.itoa t := ⟨_, rfl⟩
  obtain ⟨I, hI⟩ : ∃ I, I = Lib.itoa i := ⟨_, rfl⟩
  rw [← hD, ← hS, ← hT, ← hI]
  have lD : D.length ≤ 22 := by rw [hD]; simp; omega
  have lS : S.length ≤ 22 := by rw [hS]; simp; omega
  have lT : T.length ≤ 22 := by rw [hT]; simp; omega
  have lI : I.length ≤ 22 := by rw [hI]; omega
  have hp : ∀ c, pieceT d s t i c = if c = 100 then D else if c = 115 then S else if c = 116 then T else if c = 105 then I else [c] := by intro c; rw [hD, hS, hT, hI]; rfl
  have hp := hidT hp
  have hsz := bs_size
  have hap := bs_append
  have x32 : (⟨#[32]⟩ : ByteArray) = bs [32] := rfl
  have x44 : (⟨#[44]⟩ : ByteArray) = bs [44] := rfl
  have x40 : (⟨#[40]⟩ : ByteArray) = bs [40] := rfl
  have x41 : (⟨#[41]⟩ : ByteArray) = bs [41] := rfl
  clear hD hS hT hI l1 l2 l3 l4
  rcases hf with hf | hf | hf | hf | hf | hf | hf | hf | hf
  · rw [hf] at ho
    clear hk
    go_wp2_with fail
    refine (ho _).mono ?_
    rintro e w3 ⟨rfl, b3⟩
    have hbb := hb.trans (b3.mono hb.size)
    have q0' := (b3.cell (size_of_cell q0)).trans q0
    go_wp2_with fail
    go_ret
    refine ⟨?_, hbb⟩
    show Ending.returned (.string (bs _)) = _
    try rw [hf]
    unfold textF
    rw [if_neg (by decide)]
    simp [operL, operT, hp.out]
  · rw [hf] at ho
    clear hk
    go_wp2_with fail
    refine (ho _).mono ?_
    rintro e w3 ⟨rfl, b3⟩
    have hbb := hb.trans (b3.mono hb.size)
    have q0' := (b3.cell (size_of_cell q0)).trans q0
    go_wp2_with fail
    go_ret
    refine ⟨?_, hbb⟩
    show Ending.returned (.string (bs _)) = _
    try rw [hf]
    unfold textF
    rw [if_neg (by decide)]
    simp [operL, operT, hp.out]
  · rw [hf] at ho
    have hk3 := hk.1 hf
    clear hk
    rcases hk3 with hk3 | hk3
    all_goals
      go_wp2_with fail
      refine (ho _).mono ?_
      rintro e w3 ⟨rfl, b3⟩
      have hbb := hb.trans (b3.mono hb.size)
      have q0' := (b3.cell (size_of_cell q0)).trans q0
      go_wp2_with fail
      go_ret
      refine ⟨?_, hbb⟩
      show Ending.returned (.string (bs _)) = _
      try rw [hf]
      unfold textF
      rw [if_neg (by decide)]
      simp [operL, operT, hp.out]
  · rw [hf] at ho
    have hk4 := hk.2.1 hf
    clear hk
    go_wp2_with fail
    refine (ho _).mono ?_
    rintro e w3 ⟨rfl, b3⟩
    have hbb := hb.trans (b3.mono hb.size)
    have q0' := (b3.cell (size_of_cell q0)).trans q0
    go_wp2_with fail
    go_ret
    refine ⟨?_, hbb⟩
    show Ending.returned (.string (bs _)) = _
    try rw [hf]
    unfold textF
    rw [if_neg (by decide)]
    simp [operL, operT, hp.out]
  · rw [hf] at ho
    clear hk
    go_wp2_with fail
    refine (ho _).mono ?_
    rintro e w3 ⟨rfl, b3⟩
    have hbb := hb.trans (b3.mono hb.size)
    have q0' := (b3.cell (size_of_cell q0)).trans q0
    go_wp2_with fail
    go_ret
    refine ⟨?_, hbb⟩
    show Ending.returned (.string (bs _)) = _
    try rw [hf]
    unfold textF
    rw [if_neg (by decide)]
    simp [operL, operT, hp.out]
  · rw [hf] at ho
    clear hk
    go_wp2_with fail
    refine (ho _).mono ?_
    rintro e w3 ⟨rfl, b3⟩
    have hbb := hb.trans (b3.mono hb.size)
    have q0' := (b3.cell (size_of_cell q0)).trans q0
    go_wp2_with fail
    go_ret
    refine ⟨?_, hbb⟩
    show Ending.returned (.string (bs _)) = _
    try rw [hf]
    unfold textF
    rw [if_neg (by decide)]
    simp [operL, operT, hp.out]
  · rw [hf] at ho
    have hk7 := hk.2.2 hf
    clear hk
    go_wp2_with fail
    refine (ho _).mono ?_
    rintro e w3 ⟨rfl, b3⟩
    have hbb := hb.trans (b3.mono hb.size)
    have q0' := (b3.cell (size_of_cell q0)).trans q0
    go_wp2_with fail
    go_ret
    refine ⟨?_, hbb⟩
    show Ending.returned (.string (bs _)) = _
    try rw [hf]
    unfold textF
    rw [if_neg (by decide)]
    simp [operL, operT, hp.out]
  · rw [hf] at ho
    clear hk
    go_wp2_with fail
    refine (ho _).mono ?_
    rintro e w3 ⟨rfl, b3⟩
    have hbb := hb.trans (b3.mono hb.size)
    have q0' := (b3.cell (size_of_cell q0)).trans q0
    go_wp2_with fail
    go_ret
    refine ⟨?_, hbb⟩
    show Ending.returned (.string (bs _)) = _
    try rw [hf]
    unfold textF
    rw [if_neg (by decide)]
    simp [operL, operT, hp.out]
  · rw [hf] at ho
    clear hk
    go_wp2_with fail
    refine (ho _).mono ?_
    rintro e w3 ⟨rfl, b3⟩
    have hbb := hb.trans (b3.mono hb.size)
    have q0' := (b3.cell (size_of_cell q0)).trans q0
    go_wp2_with fail
    go_ret
    refine ⟨?_, hbb⟩
    show Ending.returned (.string (bs _)) = _
    try rw [hf]
    unfold textF
    rw [if_pos (by decide)]
theorem rtext_47 (w : World) : Calls Tryd.prog 23 #[wordV 47 0 0 0 0] w fun e w' => e = .returned (.string (bs (textL 47 0 0 0 0))) ∧ Below w.heap.size w w' := by
  have hq := fun w => rIs_in 47 (by decide) (by decide) 0 0 0 0 (by decide) w
  rw [show okF (formN 47) 0 0 0 0 = true by decide] at hq
  go_enter Tryd.func23, Tryd.ntmps23
  go_wp2_with fail
  refine (hq _).mono ?_
  rintro e w1 ⟨rfl, b1⟩
  have q0 : w1.cell? ⟨w.heap.size, 0, none⟩ = some (.int .i64 47) := own_cell b1 0 _ rfl
  have hb := ((Below.refl w.heap.size w).alloc (Nat.le_refl _) _).trans (b1.mono (by simp))
  go_wp2_with fail
  go_ret
  exact ⟨rfl, hb⟩
theorem rtext_out (op d s t i : Int) (hi : -2147483648 ≤ i ∧ i ≤ 2147483647) (h : isL op d s t i = false) (w : World) :
    Calls Tryd.prog 23 #[wordV op d s t i] w fun e w' => e = .returned (.string (bs [])) ∧ Below w.heap.size w w' := by
  go_enter Tryd.func23, Tryd.ntmps23
  go_wp2_with fail
  refine (rIs_any op d s t i hi _).mono ?_
  rintro e w1 ⟨rfl, b1⟩
  have hb := ((Below.refl w.heap.size w).alloc (Nat.le_refl _) _).trans (b1.mono (by simp))
  go_wp2_with fail
  all_goals go_ret
  all_goals exact ⟨rfl, hb⟩
theorem rtext_any (op d s t i : Int) (hi : -2147483648 ≤ i ∧ i ≤ 2147483647) (w : World) :
    Calls Tryd.prog 23 #[wordV op d s t i] w fun e w' => e = .returned (.string (bs (textL op d s t i))) ∧ Below w.heap.size w w' := by
  cases hl : isL op d s t i with
  | false =>
    have e : textL op d s t i = [] := by unfold textL; rw [hl]; rfl
    rw [e]
    exact rtext_out op d s t i hi hl w
  | true =>
    have hl' := hl
    unfold isL at hl'
    simp only [Bool.and_eq_true, decide_eq_true_eq] at hl'
    obtain ⟨⟨g1, g2⟩, g3⟩ := hl'
    obtain ⟨k, rfl⟩ : ∃ k : Nat, op = k := ⟨op.toNat, by omega⟩
    rw [Int.toNat_natCast] at g3
    by_cases h47 : k = 47
    · subst h47
      obtain ⟨e1, e2, e3, e4, e5, -⟩ := okF_regs g3
      have a1 := reg_false e1
      have a2 := reg_false e2
      have a3 := reg_false e3
      have a4 : i = 0 := by
        have a : (0 : Int) ≤ i := e4
        have b : i ≤ 0 := e5
        omega
      subst a1 a2 a3 a4
      exact rtext_47 w
    · have e : textL k d s t i = textF (formN k) (nameL k) d s t i := by unfold textL; rw [hl, if_pos rfl, Int.toNat_natCast]
      rw [e]
      exact rtext_in k (by omega) (by omega) d s t i hi g3 w
end Go.Proofs.YtbnocincfecmpaaDoor
