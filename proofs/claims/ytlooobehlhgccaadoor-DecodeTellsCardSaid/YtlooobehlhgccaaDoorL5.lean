/- DecodeFront. -/
import Derived.Test.YtlooobehlhgccaaDoorD3
import Derived.Test.YtlooobehlhgccaaDoorQ2
import Derived.Deep.CutRange
namespace Go.Proofs.YtlooobehlhgccaaDoor
open Go.RowKit
set_option linter.unusedVariables false
set_option linter.unusedSimpArgs false
set_option linter.unusedSectionVars false

theorem Own.none (w : World) (N : Nat) : Own w N (.slice none 0 0) [] := ⟨by simp, World.ownsRow_nil w N 5 1⟩
theorem cut_to (b off len cap k : Nat) (hk : k ≤ cap) (W : World) : (Instr.slice 22 (.slice (some ⟨b, off, none⟩) len cap) none (some (.int .i64 (k : Int))) none).run Tryd.prog W = .ok (.slice (some ⟨b, off, none⟩) k cap) W := by
  simp [Instr.slice, go_sem, hk]
theorem Ba.take {w : World} {b off n c : Nat} {zs : List Int} (h : Ba w (some ⟨b, off, none⟩) n c zs) (k : Nat) (hk : k ≤ n) : Ba w (some ⟨b, off, none⟩) k c (zs.take k) := by
  obtain ⟨⟨h1, h2, h3⟩, h4, h5, h6⟩ := h
  refine ⟨⟨by simp; omega, fun z hz => h2 z (List.mem_of_mem_take hz), ?_⟩, Nat.le_trans hk h4, h5, fun e => by cases e⟩
  rcases h3 with rfl | ⟨b', off', e, hlt, hc⟩
  · exact .inl (by simp)
  · refine .inr ⟨b', off', e, hlt, fun i hi => ?_⟩
    rw [hc i (by omega)]
    simp [List.getD_eq_getElem?_getD, List.getElem?_take, hi]
theorem err_codes {zs : List Int} {x : Int} (h : decM zs = .error x) : x = 10 ∨ x = 12 ∨ x = 90 := by
  have hrest : ∀ {c m : Int} {p : Nat} {r : Rw} {x : Int}, restM zs c m p r = .error x → x = 10 ∨ x = 90 := by
    intro c m p r x h
    unfold restM at h
    (repeat' split at h) <;> first | (cases h; done) | (obtain rfl := Except.error.inj h; simp)
  have hby : ∀ {c : Int} {p : Nat} {r : Rw} {x : Int}, byM zs c p r = .error x → x = 10 ∨ x = 90 := by
    intro c p r x h
    unfold byM at h
    (repeat' split at h) <;> first | exact hrest h | (obtain rfl := Except.error.inj h; simp)
  have hfirst : ∀ {c : Int} {p : Nat} {x : Int} (L : List Rw), firstM zs c p L = .error x → x = 10 ∨ x = 90 := by
    intro c p x L
    induction L with
    | nil => intro h; cases h
    | cons r rs ih =>
      intro h
      rw [firstM] at h
      split at h
      · cases hy : byM zs c p r with
        | error y => rw [hy] at h; obtain rfl := Except.error.inj h; exact hby hy
        | ok i =>
          rw [hy] at h
          dsimp only at h
          split at h
          · cases h
          · exact ih h
      · exact ih h
  unfold decM at h
  split at h
  · obtain rfl := Except.error.inj h; simp
  · split at h
    · rename_i e
      obtain rfl := Except.error.inj h
      rcases hfirst _ e with h | h <;> simp [h]
    · obtain rfl := Except.error.inj h; simp
    · cases h
theorem Decode_baI {w : World} {a : Option Addr} {n c : Nat} {zs : List Int} (A : Ba w a n c zs) (tabs : Tabs w) {i : In} {x l : Int} (hi : decI zs = i ∧ decE zs = x) (hil : i.len = l) :
    Calls Tryd.prog 10 #[.slice a n c] w fun e w' => e = .returned (.tuple #[inV i, .int .i64 l, .int .i64 x]) ∧ Below w.heap.size w w' := by
  obtain ⟨rfl, rfl⟩ := hi
  subst hil
  exact Decode_any A tabs
/-- Bytes in a world where all below a block is as it was. -/
theorem Ba.n {w w' : World} {a : Option Addr} {n c : Nat} {zs : List Int} (h : Ba w a n c zs) (b : Below w.heap.size w w') : Ba w' a n c zs := h.below b
set_option maxHeartbeats 4000000 in
set_option maxRecDepth 100000 in
theorem front_short {a a2 : Option Addr} {n c n2 c2 : Nat} {zs ys : List Int} {w : World} (A : Ba w a n c zs) (B : Ba w a2 n2 c2 ys) (tabs : Tabs w) (hn : n ≤ 20) (hn2 : n2 ≤ 20) (h1 : decI zs = inZ ∧ decE zs = 10) {J : In} {x : Int} (h2 : decI (zs ++ ys) = J ∧ decE (zs ++ ys) = x) (hx : ¬ x = 0 ∨ (x = 0 ∧ (n : Int) < J.len)) :
    Calls Tryd.prog 4 #[.slice a n c, .slice a2 n2 c2] w fun e w' => e = .returned (.bool true) ∧ Below w.heap.size w w' := by
  have hK := Lib.hid (known_any w tabs)
  have lz : zs.length = n := A.row.1
  have ly : ys.length = n2 := B.row.1
  go_enter Tryd.func4, Tryd.ntmps4
  go_upto_region 5 with ((with_reducible refine hK.out.mono ?_); rintro e W1 ⟨rfl, b1⟩)
  have A1 := A.below b1
  have B1 := B.below b1
  have hD1 := Lib.hid (Decode_baI (i := inZ) (l := 0) (x := 10) A1 (tabs.below b1) h1 rfl)
  go_upto_region 6 with (first | ((with_reducible refine hD1.out.mono ?_); rintro e W2 ⟨rfl, b2⟩) | ((with_reducible refine store_in_as rfl _ _ rfl (in16 inZ) (in16_size _) (in16_one _) rfl rfl ?_); intro W3 kI b3))
  have g3 : Below W1.heap.size W1 W3 := b2.trans (b3.mono b2.size)
  have k3 := b1.trans (g3.mono b1.size)
  have A3 := A1.below g3
  have B3 := B1.below g3
  have o0 := Own.none W3 W3.heap.size
  have hl0 : ([] : List Int).length + zs.length ≤ 100 := by simp; omega
  have hl1 : ([] ++ zs).length + ys.length ≤ 100 := by simp; omega
  have hD2 := Lib.hid (fun W v (b : Below w.heap.size w W) (h : Own W W3.heap.size v ([] ++ zs ++ ys)) => Decode_ownI (i := J) (l := J.len) (x := x) h (tabs.below b) (show decI ([] ++ zs ++ ys) = _ ∧ decE ([] ++ zs ++ ys) = _ from h2) rfl)
  go_upto_region 7 with (first | ((with_reducible refine append_bytes rfl _ _ rfl W3.heap.size (.slice none 0 0) [] zs rfl o0 (Nat.le_refl _) a n c rfl A3 hl0 ?_); intro v1 W4 o1 b4; have B4 := B3.n b4) | ((with_reducible refine append_bytes rfl _ _ rfl W3.heap.size v1 ([] ++ zs) ys rfl o1 b4.size a2 n2 c2 rfl B4 hl1 ?_); intro v2 W5 o2 b5; have g5 := b4.trans b5) | ((with_reducible refine (hD2.out _ _ (k3.trans (g5.mono k3.size)) o2).mono ?_); rintro e W6 ⟨rfl, b6⟩) | ((with_reducible refine store_in_as rfl _ _ rfl (in16 J) (in16_size _) (in16_one _) rfl rfl ?_); intro W7 kJ b7))
  have g7 : Below W3.heap.size W3 W7 := (g5.trans (b6.mono g5.size)).trans (b7.mono (Nat.le_trans g5.size b6.size))
  have k7 := k3.trans (g7.mono k3.size)
  have kI7 := kI.below g7 kI.lt
  have A7 := A3.below g7
  rcases hx with hx | ⟨rfl, hx⟩
  · go_wp2_with fail
    go_ret
    exact ⟨rfl, k7⟩
  · go_wp2_with fail
    go_ret
    exact ⟨rfl, k7⟩
set_option maxHeartbeats 4000000 in
set_option maxRecDepth 100000 in
theorem front_none {a a2 : Option Addr} {n c n2 c2 : Nat} {zs ys : List Int} {w : World} (A : Ba w a n c zs) (B : Ba w a2 n2 c2 ys) (tabs : Tabs w) (hn : n ≤ 20) (hn2 : n2 ≤ 20) {x : Int} (hx0 : ¬ x = 0) (hx1 : ¬ x = 10) (h1 : decI zs = inZ ∧ decE zs = x) (h2 : decI (zs ++ ys) = inZ ∧ decE (zs ++ ys) = x) :
    Calls Tryd.prog 4 #[.slice a n c, .slice a2 n2 c2] w fun e w' => e = .returned (.bool true) ∧ Below w.heap.size w w' := by
  have hK := Lib.hid (known_any w tabs)
  have lz : zs.length = n := A.row.1
  have ly : ys.length = n2 := B.row.1
  go_enter Tryd.func4, Tryd.ntmps4
  go_upto_region 5 with ((with_reducible refine hK.out.mono ?_); rintro e W1 ⟨rfl, b1⟩)
  have A1 := A.below b1
  have B1 := B.below b1
  have hD1 := Lib.hid (Decode_baI (i := inZ) (l := 0) (x := x) A1 (tabs.below b1) h1 rfl)
  go_upto_region 6 with (first | ((with_reducible refine hD1.out.mono ?_); rintro e W2 ⟨rfl, b2⟩) | ((with_reducible refine store_in_as rfl _ _ rfl (in16 inZ) (in16_size _) (in16_one _) rfl rfl ?_); intro W3 kI b3))
  have g3 : Below W1.heap.size W1 W3 := b2.trans (b3.mono b2.size)
  have k3 := b1.trans (g3.mono b1.size)
  have A3 := A1.below g3
  have B3 := B1.below g3
  have o0 := Own.none W3 W3.heap.size
  have hl0 : ([] : List Int).length + zs.length ≤ 100 := by simp; omega
  have hl1 : ([] ++ zs).length + ys.length ≤ 100 := by simp; omega
  have hD2 := Lib.hid (fun W v (b : Below w.heap.size w W) (h : Own W W3.heap.size v ([] ++ zs ++ ys)) => Decode_ownI (i := inZ) (l := 0) (x := x) h (tabs.below b) (show decI ([] ++ zs ++ ys) = _ ∧ decE ([] ++ zs ++ ys) = _ from h2) rfl)
  go_upto_region 7 with (first | ((with_reducible refine append_bytes rfl _ _ rfl W3.heap.size (.slice none 0 0) [] zs rfl o0 (Nat.le_refl _) a n c rfl A3 hl0 ?_); intro v1 W4 o1 b4; have B4 := B3.n b4) | ((with_reducible refine append_bytes rfl _ _ rfl W3.heap.size v1 ([] ++ zs) ys rfl o1 b4.size a2 n2 c2 rfl B4 hl1 ?_); intro v2 W5 o2 b5; have g5 := b4.trans b5) | ((with_reducible refine (hD2.out _ _ (k3.trans (g5.mono k3.size)) o2).mono ?_); rintro e W6 ⟨rfl, b6⟩) | ((with_reducible refine store_in_as rfl _ _ rfl (in16 inZ) (in16_size _) (in16_one _) rfl rfl ?_); intro W7 kJ b7))
  have g7 : Below W3.heap.size W3 W7 := (g5.trans (b6.mono g5.size)).trans (b7.mono (Nat.le_trans g5.size b6.size))
  have k7 := k3.trans (g7.mono k3.size)
  have kI7 := kI.below g7 kI.lt
  have A7 := A3.below g7
  have heq : ∀ W, (Op.equalIn 10000 28 (.agg (in16 inZ)) (.agg (in16 inZ))).run Tryd.prog W = .ok true W := eq_in inZ
  have zC := in16_size inZ
  clear hD1 hD2
  have hCz : in16 inZ = z16 := rfl
  generalize in16 inZ = C at *
  go_upto_region 12 with (first | (with_reducible refine load_inR rfl _ rfl W6.heap.size C rfl kJ zC ?_) | (with_reducible refine load_inR rfl _ rfl W2.heap.size C rfl kI7 zC ?_))
  subst hCz
  go_wp2_with (with_reducible refine load_inG (by kernel_rfl) _ rfl W2.heap.size rfl z16 zC kI7 ?_)
  go_ret
  exact ⟨rfl, k7⟩
set_option maxHeartbeats 4000000 in
set_option maxRecDepth 100000 in
theorem front_ok {a a2 : Option Addr} {n c n2 c2 : Nat} {zs ys : List Int} {w : World} (A : Ba w a n c zs) (B : Ba w a2 n2 c2 ys) (tabs : Tabs w) (hn : n ≤ 20) (hn2 : n2 ≤ 20) {i : In} (hn1 : 1 ≤ i.len) (hi15 : i.len ≤ 15) (hin : i.len ≤ n) (h1 : decI zs = i ∧ decE zs = 0) (h2 : decI (zs ++ ys) = i ∧ decE (zs ++ ys) = 0) (hcut : ∀ k : Nat, (k : Int) < i.len → decI (zs.take k) = inZ ∧ decE (zs.take k) = 10) :
    Calls Tryd.prog 4 #[.slice a n c, .slice a2 n2 c2] w fun e w' => e = .returned (.bool true) ∧ Below w.heap.size w w' := by
  have hK := Lib.hid (known_any w tabs)
  have lz : zs.length = n := A.row.1
  have ly : ys.length = n2 := B.row.1
  go_enter Tryd.func4, Tryd.ntmps4
  go_upto_region 5 with ((with_reducible refine hK.out.mono ?_); rintro e W1 ⟨rfl, b1⟩)
  have A1 := A.below b1
  have B1 := B.below b1
  have hD1 := Lib.hid (Decode_baI (i := i) (l := i.len) (x := 0) A1 (tabs.below b1) h1 rfl)
  go_upto_region 6 with (first | ((with_reducible refine hD1.out.mono ?_); rintro e W2 ⟨rfl, b2⟩) | ((with_reducible refine store_in_as rfl _ _ rfl (in16 i) (in16_size _) (in16_one _) rfl rfl ?_); intro W3 kI b3))
  have g3 : Below W1.heap.size W1 W3 := b2.trans (b3.mono b2.size)
  have k3 := b1.trans (g3.mono b1.size)
  have A3 := A1.below g3
  have B3 := B1.below g3
  have o0 := Own.none W3 W3.heap.size
  have hl0 : ([] : List Int).length + zs.length ≤ 100 := by simp; omega
  have hl1 : ([] ++ zs).length + ys.length ≤ 100 := by simp; omega
  have hD2 := Lib.hid (fun W v (b : Below w.heap.size w W) (h : Own W W3.heap.size v ([] ++ zs ++ ys)) => Decode_ownI (i := i) (l := i.len) (x := 0) h (tabs.below b) (show decI ([] ++ zs ++ ys) = _ ∧ decE ([] ++ zs ++ ys) = _ from h2) rfl)
  go_upto_region 7 with (first | ((with_reducible refine append_bytes rfl _ _ rfl W3.heap.size (.slice none 0 0) [] zs rfl o0 (Nat.le_refl _) a n c rfl A3 hl0 ?_); intro v1 W4 o1 b4; have B4 := B3.n b4) | ((with_reducible refine append_bytes rfl _ _ rfl W3.heap.size v1 ([] ++ zs) ys rfl o1 b4.size a2 n2 c2 rfl B4 hl1 ?_); intro v2 W5 o2 b5; have g5 := b4.trans b5) | ((with_reducible refine (hD2.out _ _ (k3.trans (g5.mono k3.size)) o2).mono ?_); rintro e W6 ⟨rfl, b6⟩) | ((with_reducible refine store_in_as rfl _ _ rfl (in16 i) (in16_size _) (in16_one _) rfl rfl ?_); intro W7 kJ b7))
  have g7 : Below W3.heap.size W3 W7 := (g5.trans (b6.mono g5.size)).trans (b7.mono (Nat.le_trans g5.size b6.size))
  have k7 := k3.trans (g7.mono k3.size)
  have kI7 := kI.below g7 kI.lt
  have A7 := A3.below g7
  obtain ⟨bb, off, rfl⟩ : ∃ bb off, a = some ⟨bb, off, none⟩ := by
    rcases A.row.2.2 with rfl | ⟨bb, off, e, -⟩
    · exact absurd lz (by simp; omega)
    · exact ⟨bb, off, e⟩
  have heq : ∀ W, (Op.equalIn 10000 28 (.agg (in16 i)) (.agg (in16 i))).run Tryd.prog W = .ok true W := eq_in i
  have zC := in16_size i
  have e15 : (in16 i)[15]? = some (.int .i64 i.len) := rfl
  clear hD1 hD2
  generalize in16 i = C at *
  generalize i.len = L at *
  go_upto_region 13 with (first | (with_reducible refine load_inR rfl _ rfl W6.heap.size C rfl kJ zC ?_) | (with_reducible refine load_inR rfl _ rfl W2.heap.size C rfl kI7 zC ?_))
  go_wp2_with fail
  go_loopw [11] (fun ii W => ∃ k : Nat, (k : Int) ≤ L ∧ ii = .int .i64 k ∧ Below w.heap.size w W ∧ Blk W W2.heap.size 28 C) (fun ii _ => (L - intOf ii).toNat)
  case atStart => exact ⟨0, by omega, rfl, k7, kI7⟩
  case round =>
    obtain ⟨k, hk, hi, b, kb⟩ := hrel
    obtain rfl : _ = Value.int .i64 (k : Int) := hi
    by_cases hkn : (k : Int) < L
    · have hz : ((k : Int) < L) = True := eq_true hkn
      have hwr : IntKind.i64.wrap ((k : Int) + 1) = (k : Int) + 1 := by rw [IntKind.wrap_i64]; omega
      have hsl := cut_to bb off n c k (by have := A7.lc; omega)
      have hD := Lib.hid (Decode_baI (i := inZ) (l := 0) (x := 10) ((A.below b).take k (by omega)) (tabs.below b) (hcut k hkn) rfl)
      go_wp2_with (first | ((with_reducible refine hD.out.mono ?_); rintro e W8 ⟨rfl, b8⟩; have b9 := b.trans (b8.mono b.size); have kb9 := kb.below b8 kb.lt) | ((with_reducible refine store_in_as rfl _ _ rfl (in16 inZ) (in16_size _) (in16_one _) rfl rfl ?_); intro W9 kG c9; replace b9 := b9.trans (c9.mono b9.size); replace kb9 := kb9.below c9 kb9.lt))
      go_roundw
      case rel => exact ⟨k + 1, by omega, by go_num, b9, kb9⟩
      case measure => simp [intOf]; omega
    · have hz : ((k : Int) < L) = False := eq_false hkn
      obtain rfl : (k : Int) = L := by omega
      have e15' := kb.cell (i := 15) e15
      go_wp2_with fail
      go_ret
      exact ⟨rfl, b⟩
set_option maxHeartbeats 2000000 in
theorem front_far {a a2 : Option Addr} {n c n2 c2 : Nat} {w : World} (tabs : Tabs w) (h : 20 < n ∨ 20 < n2) :
    Calls Tryd.prog 4 #[.slice a n c, .slice a2 n2 c2] w fun e w' => e = .returned (.bool true) ∧ Below w.heap.size w w' := by
  have hK := Lib.hid (known_any w tabs)
  go_enter Tryd.func4, Tryd.ntmps4
  go_upto_region 3 with ((with_reducible refine hK.out.mono ?_); rintro e W1 ⟨rfl, b1⟩)
  by_cases h1 : 20 < n
  · have hz : ((20 : Int) < (n : Int)) = True := eq_true (by omega)
    go_wp2_with fail
    go_ret
    exact ⟨rfl, b1⟩
  · have hz : ((20 : Int) < (n : Int)) = False := eq_false (by omega)
    have hz2 : ((20 : Int) < (n2 : Int)) = True := eq_true (by omega)
    go_wp2_with fail
    go_ret
    exact ⟨rfl, b1⟩
theorem front_walk {a a2 : Option Addr} {n c n2 c2 : Nat} {zs ys : List Int} {w : World} (A : Ba w a n c zs) (B : Ba w a2 n2 c2 ys) (tabs : Tabs w) :
    Calls Tryd.prog 4 #[.slice a n c, .slice a2 n2 c2] w fun e w' => e = .returned (.bool true) ∧ Below w.heap.size w w' := by
  by_cases hf : 20 < n ∨ 20 < n2
  · exact front_far tabs hf
  have hzl : zs.length = n := A.row.1
  have hzb := A.row.2.1
  have hyb := B.row.2.1
  cases h : decM zs with
  | error x =>
    by_cases hx : x = 10
    · subst hx
      cases h2 : decM (zs ++ ys) with
      | error y =>
        refine front_short A B tabs (by omega) (by omega) (dec_e h) (dec_e h2) (.inl ?_)
        have := err_codes h2
        omega
      | ok j =>
        refine front_short A B tabs (by omega) (by omega) (dec_e h) (dec_i h2) (.inr ⟨rfl, ?_⟩)
        have := dec_more hzb h h2 hyb
        omega
    · have h2 : decM (zs ++ ys) = .error x := by
        rw [dec_app ys (by rw [h]; intro e; exact hx (Except.error.inj e)), h]
      have := err_codes h
      exact front_none A B tabs (by omega) (by omega) (by omega) hx (dec_e h) (dec_e h2)
  | ok i =>
    have h2 : decM (zs ++ ys) = .ok i := by
      rw [dec_app ys (by rw [h]; intro e; cases e), h]
    obtain ⟨-, g1, g2, g3⟩ := dec_len h
    exact front_ok A B tabs (by omega) (by omega) g1 g3 (by omega) (dec_i h) (dec_i h2) (fun k hk => dec_e (dec_cut h k hk))
end Go.Proofs.YtlooobehlhgccaaDoor
