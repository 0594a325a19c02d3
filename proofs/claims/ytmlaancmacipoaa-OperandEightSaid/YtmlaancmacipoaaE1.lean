/- operand.Write8 where it can be; Read8. -/
import Derived.Test.YtmlaancmacipoaaG6
import Derived.Test.YtmlaancmacipoaaR2
namespace Go.Proofs.Ytmlaancmacipoaa
open Go.RowKit
set_option linter.unusedVariables false
set_option linter.unusedSimpArgs false
set_option linter.unusedSectionVars false

theorem lack_of {m : Mm} {a r : Int} : ∀ n, (∀ i, i < n → lackP m a r i = false) → lackL m a r n = none
  | 0, _ => rfl
  | n + 1, h => by unfold lackL; rw [lack_of n (fun i hi => h i (by omega))]; simp [h n (by omega)]
theorem lackP_up {m : Mm} (a r : Int) (k i : Nat) : lackP m (a + k) r i = lackP m a r (k + i) := by
  unfold lackP; rw [show a + (k : Int) + (i : Int) = a + ((k + i : Nat) : Int) by omega]
theorem lackP_mod {m : Mm} (a r : Int) (i : Nat) : lackP m (a % 4294967296) r i = lackP m a r i := by
  unfold lackP; rw [show (a % 4294967296 + (i : Int)) % 4294967296 = (a + i) % 4294967296 by omega]
theorem lack_two {m : Mm} (ok : m.ok) {A r : Int} (hA : 0 ≤ A ∧ A ≤ 4294967295) (h : lackL m A r 8 = none) : lackL m A r 4 = none ∧ lackL m (A + 4) r 4 = none ∧ A + 8 ≤ 16384 := by
  have hp := lack_none h
  refine ⟨lack_of 4 (fun i hi => hp i (by omega)), lack_of 4 (fun i hi => ?_), ?_⟩
  · have := lackP_up (m := m) A r 4 i
    rw [show (A + ((4 : Nat) : Int)) = A + 4 from rfl] at this
    rw [this]; exact hp (4 + i) (by omega)
  · have h1 := lack_in ok (hp 0 (by omega))
    have h2 := lack_in ok (hp 7 (by omega))
    omega
theorem lk_two {m : Mm} (ok : m.ok) (a : Int) : lkL m 2 a = if placeL m a / 2 % 2 = 0 then 2 else 0 := by
  have hx := ok.r (a / 256).toNat
  change 0 ≤ placeL m a ∧ placeL m a ≤ 7 at hx
  unfold lkL
  rw [show bits .and .i64 2 7 = 2 from rfl]
  exact miss_eq hx (.inr (.inl rfl))
theorem lk_no {m : Mm} (ok : m.ok) {A : Int} {i : Nat} (h : lackP m A 2 i = false) : lkL m 2 ((A + i) % 4294967296) = 0 := by
  rw [lackP_eq, decide_eq_false_iff_not] at h
  rw [lk_two ok, if_neg h]
theorem lk_yes {m : Mm} (ok : m.ok) {A : Int} {i : Nat} (h : lackP m A 2 i = true) : lkL m 2 ((A + i) % 4294967296) = 2 := by
  rw [lackP_eq, decide_eq_true_eq] at h
  rw [lk_two ok, if_pos h]
/-- Eight bytes of v from A on. -/
def w8S (m : Mm) (A : Nat) (v : Int) : Mm := wroteS (wroteS m A 4 (v % 4294967296)) (A + 4) 4 (v / 4294967296)
theorem wroteS_ok {m : Mm} (ok : m.ok) {A : Nat} (hA : A ≤ 4294967295) {n v : Int} (hl : lackL m A 2 (numL n) = none) : (wroteS m A n v).ok := by
  have := wroteM_ok ok A (by omega) n v
  unfold wroteM at this
  rw [hl, if_pos (by rfl), Int.toNat_natCast] at this
  exact this
theorem w8S_ok {m : Mm} (ok : m.ok) {A : Nat} (hA : A ≤ 4294967295) (v : Int) (hl : lackL m A 2 8 = none) : (w8S m A v).ok := by
  obtain ⟨l1, l2, l3⟩ := lack_two ok (by omega) hl
  exact wroteS_ok (n := 4) (wroteS_ok (n := 4) ok hA l1) (by omega) l2
theorem EBx.but {S : List Nat} {W W' : World} {B Km Ka Kv : Nat} {a v : Int} (k : EBx W B Km Ka Kv a v) (b : But S W.heap.size W W') (n1 : Km ∉ S) (n2 : Ka ∉ S) (n3 : Kv ∉ S) : EBx W' B Km Ka Kv a v :=
  ⟨b.cellAt k.m (size_of_cell k.m) n1, b.cellAt k.a (size_of_cell k.a) n2, b.cellAt k.v (size_of_cell k.v) n3⟩
set_option maxRecDepth 20000 in
theorem write8_yes1 {B Km Ka Kv : Nat} {m : Mm} {w : World} (h : PAt w B m) (ok : m.ok) (A : Nat) (hA : A ≤ 4294967295) (v : Int) (hv : 0 ≤ v ∧ v ≤ 18446744073709551615) (k : EBx w B Km Ka Kv A v) (n1 : Km ∉ [B]) (n2 : Ka ∉ [B]) (n3 : Kv ∉ [B]) (hl : lackL m A 2 8 = none) :
    Calls Try.prog 25 #[cp Km, cp Ka, cp Kv] w fun e w' => e = .returned (.tuple #[]) ∧ PAt w' B (w8S m A v) ∧ But [B] w.heap.size w w' := by
  obtain ⟨l1, l2, l3⟩ := lack_two ok (by omega) hl
  have hA0 : RowKit.Hid (∀ W, PAt W B m → Calls Try.prog 26 #[mp B, .int .u32 A, .int .i64 8, .int .i64 2] W fun e w' => e = .returned (.tuple #[]) ∧ W = w') := Lib.hid (fun W (hW : PAt W B m) => ask_yes hW ok 2 A (by omega) 8 (by decide) (fun i hi => lk_no ok (lack_none hl i hi)))
  have hS1 := Lib.hid (fun W (hW : PAt W B m) => store_yes hW ok A hA 4 (v % 4294967296) (by omega) l1)
  have ok1 := wroteS_ok (n := 4) ok hA (v := v % 4294967296) l1
  have hS2 := Lib.hid (fun W (hW : PAt W B (wroteS m A 4 (v % 4294967296))) => store_yes hW ok1 (A + 4) (by omega) 4 (v / 4294967296) (by omega) l2)
  simp only [show (((A + 4 : Nat)) : Int) = (A : Int) + 4 from rfl] at hS2
  clear hl l1 l2
  obtain ⟨c0, c1, c2⟩ := k
  go_enter Try.func25, Try.ntmps25
  go_wp2_with (first | ((with_reducible refine (hA0.out _ h).mono ?_); rintro e w1 ⟨rfl, hw⟩; subst hw) | ((with_reducible refine (hS1.out _ h).mono ?_); rintro e w2 ⟨rfl, h2, b2⟩; have d0 := b2.cellAt c0 (size_of_cell c0) n1; have d1 := b2.cellAt c1 (size_of_cell c1) n2; have d2 := b2.cellAt c2 (size_of_cell c2) n3) | ((with_reducible refine (hS2.out _ h2).mono ?_); rintro e w3 ⟨rfl, h3, b3⟩))
  exact bodyPost_end (v := .tuple #[]) (by simp [results, Try.results25, go_sem]) rfl ⟨rfl, h3, b2.trans (b3.mono b2.size (fun k hk => .inl hk))⟩
set_option maxRecDepth 20000 in
theorem Write8_yes {B : Nat} {m : Mm} {w : World} (h : PAt w B m) (ok : m.ok) (A : Nat) (hA : A ≤ 4294967295) (v : Int) (hv : 0 ≤ v ∧ v ≤ 18446744073709551615) (hl : lackL m A 2 8 = none) :
    Calls Try.prog 11 #[mp B, .int .u32 A, .int .u64 v] w fun e w' => e = .returned (.tuple #[fltV 0 0 0 0, .bool true]) ∧ PAt w' B (w8S m A v) ∧ But [B] w.heap.size w w' := by
  have hmf : ∀ (fn : Fn) (first cap : Array Value) (w : World), (Instr.makeFunc fn first cap).run Try.prog w = .ok (.func fn first cap) w := fun _ _ _ _ => rfl
  have hB := h.lt
  obtain ⟨h5, hbx, h4, k5, s5⟩ := ebx_new h A v
  have hc := Lib.hid (fun (W : World) (hW : Below ((((w.alloc (.cells #[mp B] 26)).alloc (.cells #[.int .u32 A] 23)).alloc (.cells #[.int .u64 v] 24)).alloc (.cells f0A 32)).heap.size ((((w.alloc (.cells #[mp B] 26)).alloc (.cells #[.int .u32 A] 23)).alloc (.cells #[.int .u64 v] 24)).alloc (.cells f0A 32)) W) => write8_yes1 (h5.below hW h5.lt) ok A hA v hv (hbx.below hW) (by simp; omega) (by simp; omega) (by simp; omega) hl)
  clear hl
  go_enter Try.func11, Try.ntmps11
  go_wp2_with fail
  generalize ((((w.alloc (.cells #[mp B] 26)).alloc (.cells #[.int .u32 A] 23)).alloc (.cells #[.int .u64 v] 24)).alloc (.cells #[.int .i64 0, .int .u32 0, .int .u32 0, .int .i64 0] 32)) = w5 at *
  refine (otriedW8_yes _ [B] (fun W => PAt W B (w8S m A v)) (by simp; omega) (fun W W' hr hb => hr.below hb (by omega)) (fun W hW => hc.out W hW)).mono ?_
  rintro e w6 ⟨rfl, p6, k6⟩
  replace h4 := h4.but k6 (by omega) (by simp; omega)
  have hx := h4.stored 0 0 0 0
  have z4 := size_of_cell h4.c0
  have p7 := p6.but ((But.refl [w.heap.size + 1 + 1 + 1] w6.heap.size w6).stored4 (K := w.heap.size + 1 + 1 + 1) (by simp) (.int .i64 0) (.int .u32 0) (.int .u32 0) (.int .i64 0)) p6.lt (by simp; omega)
  have kx := ((But.of k5 [B, w.heap.size + 1 + 1 + 1]).trans (k6.mono (S' := [B, w.heap.size + 1 + 1 + 1]) (by omega) (fun k hk => .inl (by simp at hk ⊢; omega)))).stored4 (K := w.heap.size + 1 + 1 + 1) (by simp) (.int .i64 0) (.int .u32 0) (.int .u32 0) (.int .i64 0)
  obtain ⟨c0, c1, c2, c3, f⟩ := h4
  have q0 := f 0
  have q1 := f 1
  have q2 := f 2
  have q3 := f 3
  clear f hmf k5 k6 hbx hc h5
  go_wp2_with fail
  clear c0 c1 c2 c3 q0 q1 q2 q3
  generalize ((((w6.setCell ⟨w.heap.size + 1 + 1 + 1, 0, none⟩ (.int .i64 0)).setCell ⟨w.heap.size + 1 + 1 + 1, 1, none⟩ (.int .u32 0)).setCell ⟨w.heap.size + 1 + 1 + 1, 2, none⟩ (.int .u32 0)).setCell ⟨w.heap.size + 1 + 1 + 1, 3, none⟩ (.int .i64 0)) = w7 at *
  obtain ⟨d0, d1, d2, d3, -⟩ := hx
  exact bodyPost_ret (v := .tuple #[fltV 0 0 0 0, .bool true]) (by simp [results, Try.results11, go_sem, d0, d1, d2, d3]) rfl ⟨rfl, p7, kx.mono (Nat.le_refl _) (fun k hk => by simp at hk ⊢; omega)⟩
end Go.Proofs.Ytmlaancmacipoaa
