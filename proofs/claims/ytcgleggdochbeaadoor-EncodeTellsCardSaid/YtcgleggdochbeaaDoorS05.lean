import Derived.Test.YtcgleggdochbeaaDoorS04
namespace Go.Proofs.YtcgleggdochbeaaDoor
open Go.RowKit
set_option linter.unusedVariables false
set_option linter.unusedSimpArgs false
set_option linter.unusedSectionVars false
def lexLe : List Int → List Int → Bool
 | [], _ => true
 | _ :: _, [] => false
 | x :: xs, y :: ys => decide (x < y) || (x == y && lexLe xs ys)
theorem lexLe_refl : ∀ xs : List Int, lexLe xs xs = true
 | [] => rfl
 | x :: xs => by rw [lexLe, lexLe_refl xs]; simp
def Near (t u : List Int) : Prop := t = u ∨ ∃ a y z D, t = a :: y :: D ∧ u = a :: z :: D ∧ y < z
theorem near_lex {t u : List Int} (h : Near t u) (suf : List Int) : ∀ pre : List Int, lexLe (pre ++ t ++ suf) (pre ++ u ++ suf) = true
 | [] => by
  rcases h with rfl | ⟨a, y, z, D, rfl, rfl, hyz⟩
  ·exact lexLe_refl _
  ·show (decide (a < a) || (a == a && (decide (y < z) || _))) = true
   rw [decide_eq_true hyz]; simp
 | x :: xs => by
  show (decide (x < x) || (x == x && lexLe (xs ++ t ++ suf) (xs ++ u ++ suf))) = true
  rw [near_lex h suf xs]; simp
theorem near_len {t u : List Int} (h : Near t u) : t.length = u.length := by
 rcases h with rfl | ⟨a, y, z, D, rfl, rfl, -⟩ <;> rfl
def cut (zs : List Int) (p q : Nat) : List Int := (zs.drop p).take (q - p)
theorem cut_self (zs : List Int) (p : Nat) : cut zs p p = [] := by simp [cut]
theorem cut_cons {zs : List Int} {p q : Nat} (h : p < q) (hl : p < zs.length) : cut zs p q = zs.getD p 0 :: cut zs (p + 1) q := by
 unfold cut
 rw [List.drop_eq_getElem_cons hl, show q - p = (q - (p + 1)) + 1 by omega, List.take_succ_cons]
 rw [List.getD_eq_getElem?_getD, List.getElem?_eq_getElem hl]
 rfl
theorem cut_app {zs : List Int} {p q r : Nat} (h : p ≤ q) (h2 : q ≤ r) : cut zs p q ++ cut zs q r = cut zs p r := by
 unfold cut
 rw [show r - p = (q - p) + (r - q) by omega, List.take_add, List.drop_drop, show p + (q - p) = q by omega]
theorem cut1 {zs : List Int} {p : Nat} (hl : p + 1 ≤ zs.length) : cut zs p (p + 1) = [zs.getD p 0] := by
 rw [cut_cons (by omega) (by omega), cut_self]
theorem cut4 {zs : List Int} (hz : ∀ z ∈ zs, 0 ≤ z ∧ z ≤ 255) {p : Nat} (hl : p + 4 ≤ zs.length) : cut zs p (p + 4) = wB (le4 zs p) := by
 have b0 := getD_bd hz p
 have b1 := getD_bd hz (p + 1)
 have b2 := getD_bd hz (p + 2)
 have b3 := getD_bd hz (p + 3)
 rw [cut_cons (by omega) (by omega), cut_cons (by omega) (by omega), cut_cons (by omega) (by omega), cut_cons (by omega) (by omega), cut_self]
 simp only [Nat.add_assoc, Nat.reduceAdd]
 unfold wB le4
 generalize zs.getD p 0 = a0 at *
 generalize zs.getD (p + 1) 0 = a1 at *
 generalize zs.getD (p + 2) 0 = a2 at *
 generalize zs.getD (p + 3) 0 = a3 at *
 rw [show (a0 + a1 * 256 + a2 * 65536 + a3 * 16777216) % 256 = a0 by omega, show (a0 + a1 * 256 + a2 * 65536 + a3 * 16777216) / 256 % 256 = a1 by omega, show (a0 + a1 * 256 + a2 * 65536 + a3 * 16777216) / 65536 % 256 = a2 by omega, show (a0 + a1 * 256 + a2 * 65536 + a3 * 16777216) / 16777216 = a3 by omega]
theorem sx_byte {z : Int} (h : 0 ≤ z ∧ z ≤ 255) : sx z % 256 = z := by
 have : ∀ n : Int, IntKind.i8.wrap n = (n + 128) % 256 - 128 := fun n => by
  simp only [IntKind.wrap, IntKind.bits, IntKind.signed]
  simp
  split <;> omega
 unfold sx
 rw [this]
 omega
theorem le4_bd {zs : List Int} (hz : ∀ z ∈ zs, 0 ≤ z ∧ z ≤ 255) (p : Nat) : 0 ≤ le4 zs p ∧ le4 zs p ≤ 4294967295 := by
 have b0 := getD_bd hz p
 have b1 := getD_bd hz (p + 1)
 have b2 := getD_bd hz (p + 2)
 have b3 := getD_bd hz (p + 3)
 unfold le4
 omega
theorem dist_cut {zs : List Int} (hz : ∀ z ∈ zs, 0 ≤ z ∧ z ≤ 255) {p q : Nat} {md base x s : Int} {o : On} (hmd : md = 0 ∨ md = 1 ∨ md = 2) (hb : 0 ≤ base ∧ base < 8) (hp : p ≤ zs.length) (h : distM zs p md base x s = some (o, q)) :
  ∃ m b, o = onMem m b x s ∧ baseN b = base ∧ -1 ≤ b ∧ b < 8 ∧ (b = 4 ↔ base = 4) ∧ 0 ≤ m ∧ m ≤ 4294967295 ∧ p ≤ q ∧ q ≤ zs.length ∧ cut zs p q = distB m b md ∧ ¬ (b < 0 ∧ ¬ md = 0) ∧ ¬ (0 ≤ b ∧ ((md = 0 ∧ (b = 5 ∨ ¬ m = 0)) ∨ (md = 1 ∧ fitI m = false))) := by
 have hbase : baseN base = base := if_neg (by omega)
 unfold distM at h
 rcases hmd with rfl | rfl | rfl
 ·rw [if_neg (by decide), if_neg (by decide)] at h
  by_cases h5 : base = 5
  ·rw [if_pos h5] at h
   split at h
   ·rename_i hl
    obtain ⟨rfl, rfl⟩ := Prod.mk.inj (Option.some.inj h)
    have hv := le4_bd hz p
    exact ⟨le4 zs p, -1, rfl, by rw [h5]; rfl, by decide, by decide, by omega, hv.1, hv.2, by omega, by omega, by rw [cut4 hz hl]; exact (if_pos (.inr (by decide))).symm, by omega, by omega⟩
   ·cases h
  ·rw [if_neg h5] at h
   obtain ⟨rfl, rfl⟩ := Prod.mk.inj (Option.some.inj h)
   exact ⟨0, base, rfl, hbase, by omega, by omega, Iff.rfl, by decide, by decide, by omega, by omega, by rw [cut_self]; unfold distB; rw [if_neg (by omega), if_neg (by decide)], by omega, by omega⟩
 ·rw [if_pos rfl] at h
  split at h
  ·rename_i hl
   obtain ⟨rfl, rfl⟩ := Prod.mk.inj (Option.some.inj h)
   have hv := getD_bd hz p
   have hsx := sx_byte hv
   have hbd := sx_bd (zs.getD p 0)
   have hf : fitI (sx (zs.getD p 0)) = true := by unfold fitI; rw [hsx]; simp
   refine ⟨sx (zs.getD p 0), base, rfl, hbase, by omega, by omega, Iff.rfl, hbd.1, hbd.2, by omega, by omega, ?_, by omega, ?_⟩
   ·rw [cut1 hl]
    unfold distB
    rw [if_neg (by omega), if_pos rfl, hsx]
   ·rw [hf]
    rintro ⟨-, h | h⟩
    ·exact absurd h.1 (by decide)
    ·exact absurd h.2 (by decide)
  ·cases h
 ·rw [if_neg (by decide), if_pos rfl] at h
  split at h
  ·rename_i hl
   obtain ⟨rfl, rfl⟩ := Prod.mk.inj (Option.some.inj h)
   have hv := le4_bd hz p
   exact ⟨le4 zs p, base, rfl, hbase, by omega, by omega, Iff.rfl, hv.1, hv.2, by omega, by omega, by rw [cut4 hz hl]; exact (if_pos (.inl rfl)).symm, by omega, by omega⟩
  ·cases h
theorem way_some {m b x s n md : Int} {sib : Bool} (c1 : ¬ (b < 0 ∧ ¬ md = 0)) (c2 : ¬ (0 ≤ b ∧ ((md = 0 ∧ (b = 5 ∨ ¬ m = 0)) ∨ (md = 1 ∧ fitI m = false)))) (c3 : ¬ (sib = false ∧ (0 ≤ x ∨ b = 4))) :
  wayT (onMem m b x s) n md sib = some ((if sib then [64 * md + 8 * n + 4, 64 * scN s + 8 * (if 0 ≤ x then x else 4) + baseN b] else [64 * md + 8 * n + baseN b]) ++ distB m b md) := by
 exact (if_neg c1).trans ((if_neg c2).trans ((if_neg c3).trans rfl))
theorem way_mem {o : On} {n md : Int} {sib : Bool} {t : List Int} (hk : ¬ o.k = 1) (hmd : md = 0 ∨ md = 1 ∨ md = 2) (h : wayT o n md sib = some t) : t ∈ modT o n := by
 unfold modT
 rw [if_neg hk]
 refine List.mem_filterMap.2 ⟨some t, ?_, rfl⟩
 rw [← h]
 rcases hmd with rfl | rfl | rfl <;> cases sib <;> simp
theorem dom_place {zs : List Int} (hz : ∀ z ∈ zs, 0 ≤ z ∧ z ≤ 255) {p q : Nat} {o : On} (hp : p + 1 ≤ zs.length) (h : placeM zs (p + 1) (zs.getD p 0) = some (o, q)) : ∃ t ∈ modT o (zs.getD p 0 / 8 % 8), Near t (cut zs p q) := by
 have hm := getD_bd hz p
 have hq := placeM_le (by omega) h
 rw [cut_cons (by omega) (by omega)]
 generalize zs.getD p 0 = m0 at *
 unfold placeM at h
 split at h
 ·obtain ⟨rfl, rfl⟩ := Prod.mk.inj (Option.some.inj h)
  refine ⟨[m0], ?_, .inl (by rw [cut_self])⟩
  unfold modT
  rw [if_pos (show (onReg (m0 % 8)).k = 1 from rfl), show 192 + 8 * (m0 / 8 % 8) + (onReg (m0 % 8)).r = m0 by simp only [onReg]; omega]
  simp
 rename_i h3
 have hmd : m0 / 64 % 4 = 0 ∨ m0 / 64 % 4 = 1 ∨ m0 / 64 % 4 = 2 := by omega
 split at h
 ·rename_i h4
  split at h
  ·rename_i hl
   have hy := getD_bd hz (p + 1)
   have hcut : p + 1 + 1 ≤ q → cut zs (p + 1) q = zs.getD (p + 1) 0 :: cut zs (p + 1 + 1) q := fun h => cut_cons (by omega) (by omega)
   generalize zs.getD (p + 1) 0 = y at *
   split at h
   ·rename_i hy4
    obtain ⟨m, b, rfl, e1, e2, e3, -, e5, e6, e7, e8, e9, c1, c2⟩ := dist_cut hz hmd (by omega) (by omega) h
    rw [hcut e7, e9]
    have hw := way_some (x := -1) (s := 1) (n := m0 / 8 % 8) (sib := true) c1 c2 (fun h => by cases h.1)
    refine ⟨_, way_mem (by simp [onMem]) hmd hw, ?_⟩
    rw [if_pos rfl, if_neg (by decide), e1, show scN 1 = 0 from rfl]
    by_cases hlt : y / 64 = 0
    ·refine .inl ?_
     show _ :: _ :: _ = _
     rw [show 64 * (m0 / 64 % 4) + 8 * (m0 / 8 % 8) + 4 = m0 by omega, show (64 : Int) * 0 + 8 * 4 + y % 8 = y by omega]
     rfl
    ·refine .inr ⟨m0, 64 * 0 + 8 * 4 + y % 8, y, distB m b (m0 / 64 % 4), ?_, rfl, by omega⟩
     show _ :: _ :: _ = _
     rw [show 64 * (m0 / 64 % 4) + 8 * (m0 / 8 % 8) + 4 = m0 by omega]
     rfl
   ·rename_i hy4
    obtain ⟨m, b, rfl, e1, e2, e3, -, e5, e6, e7, e8, e9, c1, c2⟩ := dist_cut hz hmd (by omega) (by omega) h
    rw [hcut e7, e9]
    have hw := way_some (x := y / 8 % 8) (s := 2 ^ (y / 64 % 4).toNat) (n := m0 / 8 % 8) (sib := true) c1 c2 (fun h => by cases h.1)
    refine ⟨_, way_mem (by simp [onMem]) hmd hw, .inl ?_⟩
    have hsc : scN (2 ^ (y / 64 % 4).toNat) = y / 64 := by
     rcases (by omega : y / 64 = 0 ∨ y / 64 = 1 ∨ y / 64 = 2 ∨ y / 64 = 3) with e | e | e | e <;> rw [e] <;> decide
    rw [if_pos rfl, if_pos (by omega), e1, hsc]
    show _ :: _ :: _ = _
    rw [show 64 * (m0 / 64 % 4) + 8 * (m0 / 8 % 8) + 4 = m0 by omega, show 64 * (y / 64) + 8 * (y / 8 % 8) + y % 8 = y by omega]
    rfl
  ·cases h
 ·rename_i h4
  obtain ⟨m, b, rfl, e1, e2, e3, e4, e5, e6, e7, e8, e9, c1, c2⟩ := dist_cut hz hmd (by omega) (by omega) h
  rw [e9]
  have hw := way_some (x := -1) (s := 1) (n := m0 / 8 % 8) (sib := false) c1 c2 (fun h => by rcases h.2 with h | h; omega; exact h4 (e4.1 h))
  refine ⟨_, way_mem (by simp [onMem]) hmd hw, .inl ?_⟩
  rw [if_neg Bool.false_ne_true, e1]
  show _ :: _ = _
  rw [show 64 * (m0 / 64 % 4) + 8 * (m0 / 8 % 8) + m0 % 8 = m0 by omega]
  rfl
end Go.Proofs.YtcgleggdochbeaaDoor
