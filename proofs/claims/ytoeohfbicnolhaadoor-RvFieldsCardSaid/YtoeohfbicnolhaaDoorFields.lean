import Derived.Test.YtoeohfbicnolhaaDoorM1
namespace Go.Proofs.YtoeohfbicnolhaaDoor
open Go.RowKit
set_option linter.unusedVariables false
set_option linter.unusedSimpArgs false
set_option linter.unusedSectionVars false

theorem form_r (op : Int) (h : 0 ≤ op ∧ op ≤ 255) : ∃ k : Nat, 28 + op % 18 = k ∧ 1 ≤ k ∧ k ≤ 47 ∧ formN k = 8 := by
  have h6 : ∀ m : Fin 18, formN (28 + m) = 8 := by decide
  exact ⟨28 + (op % 18).toNat, by omega, by omega, by omega, h6 ⟨(op % 18).toNat, by omega⟩⟩
theorem regs_ok {d s t : Int} (hd : 0 ≤ d ∧ d < 32) (hs : 0 ≤ s ∧ s < 32) (ht : 0 ≤ t ∧ t < 32) : okF 8 d s t 0 = true := by
  have r : ∀ {r : Int}, 0 ≤ r ∧ r < 32 → regL r true = true := fun h => (regL_iff _ true).2 ⟨h.1, h.2, fun e => by cases e⟩
  unfold okF
  rw [show hasD 8 = true by decide, show hasS 8 = true by decide, show hasT 8 = true by decide, r hd, r hs, r ht]
  decide
theorem enc_r {k : Nat} (h1 : 1 ≤ k) (h2 : k ≤ 47) (hf : formN k = 8) {d s t : Int} (hd : 0 ≤ d ∧ d < 32) (hs : 0 ≤ s ∧ s < 32) (ht : 0 ≤ t ∧ t < 32) :
    isL k d s t 0 = true ∧ encL k d s t 0 = bitsN k + d * 128 + s * 32768 + t * 1048576 := by
  constructor
  · unfold isL
    rw [Int.toNat_natCast, hf, regs_ok hd hs ht, decide_eq_true (show 1 ≤ (k : Int) by omega), decide_eq_true (show (k : Int) ≤ 47 by omega)]; rfl
  · unfold encL encF
    rw [Int.toNat_natCast, hf]
    simp only [spreadL]
    omega
theorem in_b {k : Nat} (h1 : 1 ≤ k) (h2 : k ≤ 47) (hf : formN k = 8) : In 4261441663 (bitsN k) := by
  have := in_bits h1 h2
  rw [hf] at this
  exact this
theorem iD (d : Int) (h : 0 ≤ d ∧ d < 32) : In 3968 (d * 128) := fld 7 5 _ (by simp; omega) (by decide) (by decide) (by decide)
theorem iS (d : Int) (h : 0 ≤ d ∧ d < 32) : In 1015808 (d * 32768) := fld 15 5 _ (by simp; omega) (by decide) (by decide) (by decide)
theorem iT (d : Int) (h : 0 ≤ d ∧ d < 32) : In 32505856 (d * 1048576) := fld 20 5 _ (by simp; omega) (by decide) (by decide) (by decide)
theorem or_r {k : Nat} (h1 : 1 ≤ k) (h2 : k ≤ 47) (hf : formN k = 8) {d s t : Int} (hd : 0 ≤ d ∧ d < 32) (hs : 0 ≤ s ∧ s < 32) (ht : 0 ≤ t ∧ t < 32) :
    bits .or .u32 (bits .or .u32 (bits .or .u32 (bitsN k) (d * 128)) (s * 32768)) (t * 1048576) = bitsN k + d * 128 + s * 32768 + t * 1048576 := by
  obtain ⟨e1, m1⟩ := or_in (in_b h1 h2 hf) (iD d hd) (by decide)
  obtain ⟨e2, m2⟩ := or_in m1 (iS s hs) (by decide)
  obtain ⟨e3, m3⟩ := or_in m2 (iT t ht) (by decide)
  rw [e1, e2, e3]
theorem xor_in {m m' : Nat} {R a d : Int} (hR : In m R) (ha : In m' a) (hd : In m' d) (hm : m &&& m' = 0) : bits .xor .u32 (R + a) (R + d) = bits .xor .u32 a d := by
  obtain ⟨ea, -⟩ := or_in hR ha hm
  obtain ⟨ed, -⟩ := or_in hR hd hm
  have bR := hR.bd
  have ba := ha.bd
  have bd := hd.bd
  obtain ⟨r, rfl, r1, r2⟩ := hR
  obtain ⟨x, rfl, x1, x2⟩ := ha
  obtain ⟨y, rfl, y1, y2⟩ := hd
  rw [← ea, ← ed, u32_or_nat' r x (by omega) (by omega), u32_or_nat' r y (by omega) (by omega)]
  have o1 : r ||| x < 4294967296 := Nat.or_lt_two_pow (n := 32) (by omega) (by omega)
  have o2 : r ||| y < 4294967296 := Nat.or_lt_two_pow (n := 32) (by omega) (by omega)
  rw [u32_xor_nat' _ _ o1 o2, u32_xor_nat' x y (by omega) (by omega)]
  congr 1
  apply Nat.eq_of_testBit_eq
  intro i
  have e0 := congrArg (fun z => Nat.testBit z i) hm
  have e1 := congrArg (fun z => Nat.testBit z i) r1
  have e2 := congrArg (fun z => Nat.testBit z i) x1
  have e3 := congrArg (fun z => Nat.testBit z i) y1
  simp only [Nat.testBit_and, Nat.testBit_or, Nat.testBit_xor, Nat.zero_testBit] at e0 e1 e2 e3 ⊢
  revert e0 e1 e2 e3
  cases m.testBit i <;> cases m'.testBit i <;> cases r.testBit i <;> cases x.testBit i <;> cases y.testBit i <;> simp
theorem xor_shift {A D : Int} (hA : 0 ≤ A ∧ A < 32) (hD : 0 ≤ D ∧ D < 32) : bits .xor .u32 (A * 128) (D * 128) = bits .xor .u8 A D * 128 ∧ 0 ≤ bits .xor .u8 A D ∧ bits .xor .u8 A D < 32 := by
  obtain ⟨a, rfl⟩ := Int.eq_ofNat_of_zero_le hA.1
  obtain ⟨d, rfl⟩ := Int.eq_ofNat_of_zero_le hD.1
  have h : ∀ a d : Fin 32, (a.val * 128) ^^^ (d.val * 128) = (a.val ^^^ d.val) * 128 ∧ a.val ^^^ d.val < 32 := by decide +kernel
  obtain ⟨h1, h2⟩ := h ⟨a, by omega⟩ ⟨d, by omega⟩
  simp only at h1 h2
  have e8 : bits .xor .u8 (a : Int) (d : Int) = ((a ^^^ d : Nat) : Int) := u8_xor_nat a d (by omega) (by omega)
  rw [e8]
  refine ⟨?_, by omega, by omega⟩
  have e1 : ((a : Int) * 128) = ((a * 128 : Nat) : Int) := by simp
  have e2 : ((d : Int) * 128) = ((d * 128 : Nat) : Int) := by simp
  rw [e1, e2, u32_xor_nat' _ _ (by omega) (by omega), h1]
  simp
theorem xor_r {k : Nat} (h1 : 1 ≤ k) (h2 : k ≤ 47) (hf : formN k = 8) {d d' s t : Int} (hd : 0 ≤ d ∧ d < 32) (hd' : 0 ≤ d' ∧ d' < 32) (hs : 0 ≤ s ∧ s < 32) (ht : 0 ≤ t ∧ t < 32) :
    bits .xor .u32 (bitsN k + d * 128 + s * 32768 + t * 1048576) (bitsN k + d' * 128 + s * 32768 + t * 1048576) = bits .xor .u8 d d' * 128 := by
  obtain ⟨e2, m2⟩ := or_in (in_b h1 h2 hf) (iS s hs) (by decide)
  obtain ⟨e3, m3⟩ := or_in m2 (iT t ht) (by decide)
  have := xor_in m3 (iD d hd) (iD d' hd') (by decide)
  rw [show (bitsN k : Int) + d * 128 + s * 32768 + t * 1048576 = bitsN k + s * 32768 + t * 1048576 + d * 128 by omega, show (bitsN k : Int) + d' * 128 + s * 32768 + t * 1048576 = bitsN k + s * 32768 + t * 1048576 + d' * 128 by omega, this]
  exact (xor_shift hd hd').1
set_option maxHeartbeats 4000000 in
theorem fields_walk (op a b c d : Int) (h0 : 0 ≤ op ∧ op ≤ 255) (ha : 0 ≤ a ∧ a ≤ 255) (hb : 0 ≤ b ∧ b ≤ 255) (hc : 0 ≤ c ∧ c ≤ 255) (hd : 0 ≤ d ∧ d ≤ 255) (w : World) (tabs : Tabs w) :
    Calls Tryd.prog 8 #[.int .u8 op, .int .u8 a, .int .u8 b, .int .u8 c, .int .u8 d] w fun e w' => e = .returned (.bool true) ∧ Below w.heap.size w w' := by
  obtain ⟨k, hk, k1, k2, kf⟩ := form_r op h0
  have gA : 0 ≤ a % 32 ∧ a % 32 < 32 := by omega
  have gB : 0 ≤ b % 32 ∧ b % 32 < 32 := by omega
  have gC : 0 ≤ c % 32 ∧ c % 32 < 32 := by omega
  have gD : 0 ≤ d % 32 ∧ d % 32 < 32 := by omega
  obtain ⟨i1, e1⟩ := enc_r k1 k2 kf gA gB gC
  obtain ⟨i2, e2⟩ := enc_r k1 k2 kf gD gB gC
  obtain ⟨i3, e3⟩ := enc_r k1 k2 kf (d := 0) (s := 0) (t := 0) (by decide) (by decide) (by decide)
  have c1 := fun w t => enc_true i1 w t
  have c2 := fun w t => enc_true i2 w t
  have c3 := fun w t => enc_true i3 w t
  rw [← hk] at c1 c2 c3 e1 e2 e3
  clear i1 i2 i3
  have q1 := or_r k1 k2 kf gA gB gC
  have q2 := xor_r k1 k2 kf gA gD gB gC
  have q3 := xor_shift gA gD
  rw [← e1, show (bitsN k : Int) = encL (28 + op % 18) 0 0 0 0 by omega] at q1
  rw [← e1, ← e2] at q2
  generalize encL (28 + op % 18) (a % 32) (b % 32) (c % 32) 0 = X at *
  generalize encL (28 + op % 18) (d % 32) (b % 32) (c % 32) 0 = Y at *
  generalize encL (28 + op % 18) 0 0 0 0 = Z at *
  have q1' := hid q1
  have q2' := hid q2
  have q3' := hid q3
  clear q1 q2 q3 e1 e2 e3 hk kf
  go_enter Tryd.func8, Tryd.ntmps8
  go_wp2_with fail
  refine (known_any _ tabs).mono ?_
  rintro e w1 ⟨rfl, b1⟩
  replace tabs := tabs.below b1
  go_wp2_with fail
  refine (c1 _ tabs).mono ?_
  rintro e w2 ⟨rfl, b2⟩
  replace tabs := tabs.below b2
  replace b1 := b1.trans (b2.mono b1.size)
  clear b2
  go_wp2_with fail
  refine (c2 _ tabs).mono ?_
  rintro e w2 ⟨rfl, b2⟩
  replace tabs := tabs.below b2
  replace b1 := b1.trans (b2.mono b1.size)
  clear b2
  go_wp2_with fail
  refine (c3 _ tabs).mono ?_
  rintro e w2 ⟨rfl, b2⟩
  replace tabs := tabs.below b2
  replace b1 := b1.trans (b2.mono b1.size)
  clear b2
  go_wp2_with fail
  all_goals go_ret
  all_goals refine ⟨ret_bool ?_, b1⟩
  · rw [q1'.out]; simp
  · rename_i hx
    exfalso
    obtain ⟨r1, r2, r3⟩ := q3'.out
    rw [q2'.out] at hx
    omega
end Go.Proofs.YtoeohfbicnolhaaDoor
