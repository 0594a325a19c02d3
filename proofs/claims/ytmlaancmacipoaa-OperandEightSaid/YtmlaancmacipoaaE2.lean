/- operand.Read8. -/
import Derived.Test.YtmlaancmacipoaaE1
namespace Go.Proofs.Ytmlaancmacipoaa
open Go.RowKit
set_option linter.unusedVariables false
set_option linter.unusedSimpArgs false
set_option linter.unusedSectionVars false

/-- What Read8 has boxed: the memory, the place. -/
structure FBx (W : World) (B Km Ka : Nat) (m : Mm) (a : Int) : Prop where
  h : PAt W B m
  m : W.cell? ⟨Km, 0, none⟩ = some (mp B)
  a : W.cell? ⟨Ka, 0, none⟩ = some (.int .u32 a)
theorem FBx.below {W W' : World} {B Km Ka : Nat} {m : Mm} {a : Int} (k : FBx W B Km Ka m a) (b : Below W.heap.size W W') : FBx W' B Km Ka m a :=
  ⟨k.h.below b k.h.lt, (b.cell (p := ⟨Km, 0, none⟩) (size_of_cell k.m)).trans k.m, (b.cell (p := ⟨Ka, 0, none⟩) (size_of_cell k.a)).trans k.a⟩
/-- Two words as a number. -/
def up8 (lo hi : Int) : Int := bits .or .u64 (hi * 4294967296) lo
theorem lackL_first {m : Mm} {A r : Int} {j : Nat} (hl : lackL m A r 8 = some j) : (j < 4 → lackL m A r 4 = some j) ∧ (4 ≤ j → lackL m A r 4 = none ∧ lackL m (A + 4) r 4 = some (j - 4)) := by
  obtain ⟨hj, h1, h2⟩ := lack_some hl
  have up : ∀ n k, k < n → ∀ a : Int, lackP m a r k = true → (∀ i, i < k → lackP m a r i = false) → lackL m a r n = some k := by
    intro n
    induction n with
    | zero => intro k hk; omega
    | succ n ih =>
      intro k hk a p1 p2
      unfold lackL
      by_cases e : k = n
      · subst e; rw [lack_of k p2]; simp [p1]
      · rw [ih k (by omega) a p1 p2]
  refine ⟨fun h => up 4 j h A h1 h2, fun h => ⟨lack_of 4 (fun i hi => h2 i (by omega)), up 4 (j - 4) (by omega) _ ?_ (fun i hi => ?_)⟩⟩
  · have := lackP_up (m := m) A r 4 (j - 4)
    rw [show (A + ((4 : Nat) : Int)) = A + 4 from rfl] at this
    rw [this, show 4 + (j - 4) = j by omega]; exact h1
  · have := lackP_up (m := m) A r 4 i
    rw [show (A + ((4 : Nat) : Int)) = A + 4 from rfl] at this
    rw [this]; exact h2 _ (by omega)
theorem lackL_mod {m : Mm} (a r : Int) : ∀ n, lackL m (a % 4294967296) r n = lackL m a r n
  | 0 => rfl
  | n + 1 => by unfold lackL; rw [lackL_mod a r n, lackP_mod]
set_option maxRecDepth 20000 in
theorem read8_yes1 {B Km Ka Kv : Nat} {m : Mm} {w : World} (ok : m.ok) (A : Nat) (hA : A ≤ 4294967295) (k : FBx w B Km Ka m A) (n1 : ¬ Km = Kv) (n2 : ¬ Ka = Kv) (cv : w.cell? ⟨Kv, 0, none⟩ = some (.int .u64 0)) (fv : w.frozen? ⟨Kv, 0, none⟩ = false) (hl : lackL m A 1 8 = none) :
    Calls Try.prog 31 #[cp Km, cp Ka, cp Kv] w fun e w' => e = .returned (.tuple #[]) ∧ w'.cell? ⟨Kv, 0, none⟩ = some (.int .u64 (up8 (readL m A 4) (readL m (A + 4) 4))) ∧ But [Kv] w.heap.size w w' := by
  obtain ⟨l1, l2, l3⟩ := lack_two ok (by omega) hl
  have hS1 := Lib.hid (fun W (hW : FBx W B Km Ka m A) => load_yes hW.h ok A hA 4 l1)
  have hS2 := Lib.hid (fun W (hW : FBx W B Km Ka m A) => load_yes hW.h ok (A + 4) (by omega) 4 l2)
  simp only [show (((A + 4 : Nat)) : Int) = (A : Int) + 4 from rfl] at hS2
  rw [show numL 4 = 4 from rfl] at hS1 hS2
  have r1 := read_bd ok A 4
  have r2 := read_bd ok (A + 4) 4
  simp only [show (2 : Int) ^ (8 * 4) = 4294967296 from rfl] at r1 r2
  unfold up8
  generalize readL m A 4 = lo at *
  generalize readL m (A + 4) 4 = hi at *
  have hw : IntKind.u64.wrap (hi * 4294967296) = hi * 4294967296 := by rw [IntKind.wrap_u64]; omega
  have zv := size_of_cell cv
  clear hl l1 l2
  have k0 := k
  obtain ⟨h, c0, c1⟩ := k0
  go_enter Try.func31, Try.ntmps31
  go_wp2_with (first | ((with_reducible refine (hS1.out _ k).mono ?_); rintro e w2 ⟨rfl, b2⟩; have k2 := k.below b2; have d0 := k2.m; have d1 := k2.a; have cv2 := (b2.cell (p := ⟨Kv, 0, none⟩) zv).trans cv; have fv2 := (b2.frozen (p := ⟨Kv, 0, none⟩) zv).trans fv) | ((with_reducible refine (hS2.out _ k2).mono ?_); rintro e w3 ⟨rfl, b3⟩; have k3 := k2.below b3; have cv3 := (b3.cell (p := ⟨Kv, 0, none⟩) (size_of_cell cv2)).trans cv2; have fv3 := (b3.frozen (p := ⟨Kv, 0, none⟩) (size_of_cell cv2)).trans fv2))
  have c9 : (w3.setCell ⟨Kv, 0, none⟩ (.int .u64 (bits .or .u64 (hi * 4294967296) lo))).cell? ⟨Kv, 0, none⟩ = some (.int .u64 (bits .or .u64 (hi * 4294967296) lo)) := by simp [go_sem, cv3]
  have k9 := (But.of (b2.trans (b3.mono b2.size)) [Kv]).setCell (p := ⟨Kv, 0, none⟩) (by simp) (.int .u64 (bits .or .u64 (hi * 4294967296) lo))
  exact bodyPost_end (v := .tuple #[]) (by simp [results, Try.results31, go_sem]) rfl ⟨rfl, c9, k9⟩
set_option maxRecDepth 20000 in
theorem read8_no1 {B Km Ka Kv : Nat} {m : Mm} {w : World} (ok : m.ok) (A : Nat) (hA : A ≤ 4294967295) (k : FBx w B Km Ka m A) (j : Nat) (hl : lackL m A 1 8 = some j) :
    Calls Try.prog 31 #[cp Km, cp Ka, cp Kv] w fun e w' => e = .panicked (fltP ((A + j) % 4294967296) 1) ∧ Below w.heap.size w w' := by
  obtain ⟨hj, -, -⟩ := lack_some hl
  obtain ⟨q1, q2⟩ := lackL_first hl
  have k0 := k
  obtain ⟨h, c0, c1⟩ := k0
  by_cases h4 : j < 4
  · have hS1 := Lib.hid (fun W (hW : FBx W B Km Ka m A) => load_no hW.h ok A j hA 4 (q1 h4))
    clear q1 q2 hl
    generalize ((A : Int) + j) % 4294967296 = a at *
    go_enter Try.func31, Try.ntmps31
    go_wp2_with ((with_reducible refine (hS1.out _ k).mono ?_); rintro e w2 ⟨rfl, b2⟩)
    exact ⟨rfl, rfl, b2⟩
  · obtain ⟨l1, l2⟩ := q2 (by omega)
    have hS1 := Lib.hid (fun W (hW : FBx W B Km Ka m A) => load_yes hW.h ok A hA 4 l1)
    have l2' : lackL m (((A + 4) % 4294967296 : Nat) : Int) 1 (numL 4) = some (j - 4) := by
      rw [show (((A + 4) % 4294967296 : Nat) : Int) = ((A : Int) + 4) % 4294967296 by omega, lackL_mod]; exact l2
    have hS2 := Lib.hid (fun W (hW : FBx W B Km Ka m A) => load_no hW.h ok ((A + 4) % 4294967296) (j - 4) (by omega) 4 l2')
    simp only [show (((A + 4) % 4294967296 : Nat) : Int) = ((A : Int) + 4) % 4294967296 from rfl] at hS2
    rw [show (((A : Int) + 4) % 4294967296 + ((j - 4 : Nat) : Int)) % 4294967296 = ((A : Int) + j) % 4294967296 by omega] at hS2
    clear q1 q2 hl l1 l2 l2'
    generalize ((A : Int) + j) % 4294967296 = a at *
    generalize readL m A (numL 4) = lo at *
    go_enter Try.func31, Try.ntmps31
    go_wp2_with (first | ((with_reducible refine (hS1.out _ k).mono ?_); rintro e w2 ⟨rfl, b2⟩; have k2 := k.below b2; have d0 := k2.m; have d1 := k2.a) | ((with_reducible refine (hS2.out _ k2).mono ?_); rintro e w3 ⟨rfl, b3⟩))
    exact ⟨rfl, rfl, b2.trans (b3.mono b2.size)⟩
theorem fbx_new {B : Nat} {m : Mm} {w : World} (h : PAt w B m) (A : Int) : FBx ((((w.alloc (.cells #[mp B] 26)).alloc (.cells #[.int .u32 A] 23)).alloc (.cells f0A 32)).alloc (.cells #[.int .u64 0] 24)) B (w.heap.size) (w.heap.size + 1) m A ∧ Four ((((w.alloc (.cells #[mp B] 26)).alloc (.cells #[.int .u32 A] 23)).alloc (.cells f0A 32)).alloc (.cells #[.int .u64 0] 24)) (w.heap.size + 1 + 1) 0 0 0 0 ∧ ((((w.alloc (.cells #[mp B] 26)).alloc (.cells #[.int .u32 A] 23)).alloc (.cells f0A 32)).alloc (.cells #[.int .u64 0] 24)).cell? ⟨(w.heap.size + 1 + 1 + 1), 0, none⟩ = some (.int .u64 0) ∧ ((((w.alloc (.cells #[mp B] 26)).alloc (.cells #[.int .u32 A] 23)).alloc (.cells f0A 32)).alloc (.cells #[.int .u64 0] 24)).frozen? ⟨(w.heap.size + 1 + 1 + 1), 0, none⟩ = false ∧ Below w.heap.size w ((((w.alloc (.cells #[mp B] 26)).alloc (.cells #[.int .u32 A] 23)).alloc (.cells f0A 32)).alloc (.cells #[.int .u64 0] 24)) ∧ ((((w.alloc (.cells #[mp B] 26)).alloc (.cells #[.int .u32 A] 23)).alloc (.cells f0A 32)).alloc (.cells #[.int .u64 0] 24)).heap.size = w.heap.size + 4 := by
  have b := (((((Below.refl w.heap.size w).alloc (Nat.le_refl _) (.cells #[mp B] 26)).alloc (by simp) (.cells #[.int .u32 A] 23)).alloc (by simp; omega) (.cells f0A 32)).alloc (by simp; omega) (.cells #[.int .u64 0] 24))
  have f5 := (Four.begun ((w.alloc (.cells #[mp B] 26)).alloc (.cells #[.int .u32 A] 23)) 0 0 0 0 32).but (But.of ((Below.refl (((w.alloc (.cells #[mp B] 26)).alloc (.cells #[.int .u32 A] 23)).alloc (.cells f0A 32)).heap.size (((w.alloc (.cells #[mp B] 26)).alloc (.cells #[.int .u32 A] 23)).alloc (.cells f0A 32))).alloc (Nat.le_refl _) (.cells #[.int .u64 0] 24)) []) (by simp) (by simp)
  simp only [World.size_alloc] at f5
  exact ⟨⟨((((h.alloc _).alloc _).alloc _).alloc _), by simp [go_sem], by simp [go_sem]⟩, f5, by simp [go_sem], by simp [go_sem], b, by simp⟩
set_option maxRecDepth 20000 in
theorem Read8_no {B : Nat} {m : Mm} {w : World} (h : PAt w B m) (ok : m.ok) (A : Nat) (hA : A ≤ 4294967295) (j : Nat) (hl : lackL m A 1 8 = some j) : Calls Try.prog 13 #[mp B, .int .u32 A] w fun e w' => e = .returned (.tuple #[.int .u64 0, fltV 1 0 ((A + j) % 4294967296) 1, .bool false]) ∧ Below w.heap.size w w' := by
  have hmf : ∀ (fn : Fn) (first cap : Array Value) (w : World), (Instr.makeFunc fn first cap).run Try.prog w = .ok (.func fn first cap) w := fun _ _ _ _ => rfl
  obtain ⟨hbx, h4, cv, fv, k5, s5⟩ := fbx_new h A
  have hc := Lib.hid (fun (W : World) (hW : Below ((((w.alloc (.cells #[mp B] 26)).alloc (.cells #[.int .u32 A] 23)).alloc (.cells f0A 32)).alloc (.cells #[.int .u64 0] 24)).heap.size ((((w.alloc (.cells #[mp B] 26)).alloc (.cells #[.int .u32 A] 23)).alloc (.cells f0A 32)).alloc (.cells #[.int .u64 0] 24)) W) => read8_no1 (Kv := w.heap.size + 1 + 1 + 1) ok A hA (hbx.below hW) j hl)
  clear hl
  generalize hA9 : ((A : Int) + j) % 4294967296 = a at *
  have HA := Lib.hid hA9
  clear hA9
  go_enter Try.func13, Try.ntmps13
  go_wp2_with fail
  generalize ((((w.alloc (.cells #[mp B] 26)).alloc (.cells #[.int .u32 A] 23)).alloc (.cells #[.int .i64 0, .int .u32 0, .int .u32 0, .int .i64 0] 32)).alloc (.cells #[.int .u64 0] 24)) = w5 at *
  refine (otriedR8_no _ 1 0 a 1 (fun W hW => hc.out W hW)).mono ?_
  rintro e w6 ⟨rfl, k6⟩
  replace h4 := h4.but (But.of k6 []) (by omega) (by simp)
  replace cv := (k6.cell (p := ⟨w.heap.size + 1 + 1 + 1, 0, none⟩) (show w.heap.size + 1 + 1 + 1 < w5.heap.size by omega)).trans cv
  have kx := k5.trans (k6.mono (by omega))
  have s6 := kx.size
  have z4 := size_of_cell h4.c0
  have zv := size_of_cell cv
  have h5 := h4.but (But.of ((Below.refl w6.heap.size w6).alloc (Nat.le_refl _) (.cells #[.int .i64 1, .int .u32 0, .int .u32 a, .int .i64 1] 32)) []) z4 (by simp)
  have cv5 := up_cell cv (.cells #[.int .i64 1, .int .u32 0, .int .u32 a, .int .i64 1] 32)
  have n5 := Four.begun w6 1 0 a 1 32
  have kn := kx.alloc (by omega) (.cells #[.int .i64 1, .int .u32 0, .int .u32 a, .int .i64 1] 32)
  clear hmf k5 k6 hbx h4 cv fv hc
  go_wp2_with fail
  generalize w6.alloc (.cells #[.int .i64 1, .int .u32 0, .int .u32 a, .int .i64 1] 32) = w7 at *
  have hx : Four ((((w7.setCell ⟨w.heap.size + 1 + 1, 0, none⟩ (.int .i64 1)).setCell ⟨w.heap.size + 1 + 1, 1, none⟩ (.int .u32 0)).setCell ⟨w.heap.size + 1 + 1, 2, none⟩ (.int .u32 a)).setCell ⟨w.heap.size + 1 + 1, 3, none⟩ (.int .i64 1)).drew (w.heap.size + 1 + 1) 1 0 a 1 := (h5.stored 1 0 a 1).drew
  have kz : Below w.heap.size w ((((w7.setCell ⟨w.heap.size + 1 + 1, 0, none⟩ (.int .i64 1)).setCell ⟨w.heap.size + 1 + 1, 1, none⟩ (.int .u32 0)).setCell ⟨w.heap.size + 1 + 1, 2, none⟩ (.int .u32 a)).setCell ⟨w.heap.size + 1 + 1, 3, none⟩ (.int .i64 1)).drew :=
    ((But.of kn [w.heap.size + 1 + 1]).stored4 (K := w.heap.size + 1 + 1) (by simp) (.int .i64 1) (.int .u32 0) (.int .u32 a) (.int .i64 1)).drew.below (Nat.le_refl _) (by simp; omega)
  obtain ⟨c0, c1, c2, c3, f⟩ := h5
  obtain ⟨g0, g1, g2, g3, gg⟩ := n5
  have f0 := f 0
  have f1 := f 1
  have f2 := f 2
  have f3 := f 3
  clear f gg kn kx
  go_region
  clear c0 c1 c2 c3 f0 f1 f2 f3 g0 g1 g2 g3 cv5
  generalize ((((w7.setCell ⟨w.heap.size + 1 + 1, 0, none⟩ (.int .i64 1)).setCell ⟨w.heap.size + 1 + 1, 1, none⟩ (.int .u32 0)).setCell ⟨w.heap.size + 1 + 1, 2, none⟩ (.int .u32 a)).setCell ⟨w.heap.size + 1 + 1, 3, none⟩ (.int .i64 1)).drew = w8 at *
  obtain ⟨d0, d1, d2, d3, -⟩ := hx
  go_wp2_with fail
  exact bodyPost_ret (v := .tuple #[.int .u64 0, fltV 1 0 a 1, .bool false]) (by simp [results, Try.results13, go_sem, d0, d1, d2, d3]) rfl ⟨by have h1 := HA.out; subst h1; rfl, kz⟩
set_option maxRecDepth 20000 in
theorem Read8_yes {B : Nat} {m : Mm} {w : World} (h : PAt w B m) (ok : m.ok) (A : Nat) (hA : A ≤ 4294967295) (hl : lackL m A 1 8 = none) : Calls Try.prog 13 #[mp B, .int .u32 A] w fun e w' => e = .returned (.tuple #[.int .u64 (up8 (readL m A 4) (readL m (A + 4) 4)), fltV 0 0 0 0, .bool true]) ∧ Below w.heap.size w w' := by
  have hmf : ∀ (fn : Fn) (first cap : Array Value) (w : World), (Instr.makeFunc fn first cap).run Try.prog w = .ok (.func fn first cap) w := fun _ _ _ _ => rfl
  obtain ⟨hbx, h4, cv, fv, k5, s5⟩ := fbx_new h A
  have hc := Lib.hid (fun (W : World) (hW : Below ((((w.alloc (.cells #[mp B] 26)).alloc (.cells #[.int .u32 A] 23)).alloc (.cells f0A 32)).alloc (.cells #[.int .u64 0] 24)).heap.size ((((w.alloc (.cells #[mp B] 26)).alloc (.cells #[.int .u32 A] 23)).alloc (.cells f0A 32)).alloc (.cells #[.int .u64 0] 24)) W) => read8_yes1 (Kv := w.heap.size + 1 + 1 + 1) ok A hA (hbx.below hW) (by omega) (by omega) ((hW.cell (p := ⟨w.heap.size + 1 + 1 + 1, 0, none⟩) (show w.heap.size + 1 + 1 + 1 < _ by rw [s5]; omega)).trans cv) ((hW.frozen (p := ⟨w.heap.size + 1 + 1 + 1, 0, none⟩) (show w.heap.size + 1 + 1 + 1 < _ by rw [s5]; omega)).trans fv) hl)
  clear hl
  generalize up8 (readL m A 4) (readL m (A + 4) 4) = v at *
  go_enter Try.func13, Try.ntmps13
  go_wp2_with fail
  generalize ((((w.alloc (.cells #[mp B] 26)).alloc (.cells #[.int .u32 A] 23)).alloc (.cells #[.int .i64 0, .int .u32 0, .int .u32 0, .int .i64 0] 32)).alloc (.cells #[.int .u64 0] 24)) = w5 at *
  refine (otriedR8_yes _ [w.heap.size + 1 + 1 + 1] (fun W => W.cell? ⟨w.heap.size + 1 + 1 + 1, 0, none⟩ = some (.int .u64 v)) (by simp; omega) (fun W W' hr hb => (hb.cell (p := ⟨w.heap.size + 1 + 1 + 1, 0, none⟩) (show w.heap.size + 1 + 1 + 1 < w5.heap.size by omega)).trans hr)
    (fun W hW => hc.out W hW)).mono ?_
  rintro e w6 ⟨rfl, cv2, k6⟩
  replace h4 := h4.but k6 (by omega) (by simp)
  clear cv
  have cv := cv2
  clear cv2
  have kx := k5.trans (k6.below (show w.heap.size ≤ w5.heap.size by omega) (by simp; omega))
  have s6 := kx.size
  have z4 := size_of_cell h4.c0
  have zv := size_of_cell cv
  have h5 := h4.but (But.of ((Below.refl w6.heap.size w6).alloc (Nat.le_refl _) (.cells #[.int .i64 0, .int .u32 0, .int .u32 0, .int .i64 0] 32)) []) z4 (by simp)
  have cv5 := up_cell cv (.cells #[.int .i64 0, .int .u32 0, .int .u32 0, .int .i64 0] 32)
  have n5 := Four.begun w6 0 0 0 0 32
  have kn := kx.alloc (by omega) (.cells #[.int .i64 0, .int .u32 0, .int .u32 0, .int .i64 0] 32)
  clear hmf k5 k6 hbx h4 cv fv hc
  go_wp2_with fail
  generalize w6.alloc (.cells #[.int .i64 0, .int .u32 0, .int .u32 0, .int .i64 0] 32) = w7 at *
  have hx : Four ((((w7.setCell ⟨w.heap.size + 1 + 1, 0, none⟩ (.int .i64 0)).setCell ⟨w.heap.size + 1 + 1, 1, none⟩ (.int .u32 0)).setCell ⟨w.heap.size + 1 + 1, 2, none⟩ (.int .u32 0)).setCell ⟨w.heap.size + 1 + 1, 3, none⟩ (.int .i64 0)).drew (w.heap.size + 1 + 1) 0 0 0 0 := (h5.stored 0 0 0 0).drew
  have kz : Below w.heap.size w ((((w7.setCell ⟨w.heap.size + 1 + 1, 0, none⟩ (.int .i64 0)).setCell ⟨w.heap.size + 1 + 1, 1, none⟩ (.int .u32 0)).setCell ⟨w.heap.size + 1 + 1, 2, none⟩ (.int .u32 0)).setCell ⟨w.heap.size + 1 + 1, 3, none⟩ (.int .i64 0)).drew :=
    ((But.of kn [w.heap.size + 1 + 1]).stored4 (K := w.heap.size + 1 + 1) (by simp) (.int .i64 0) (.int .u32 0) (.int .u32 0) (.int .i64 0)).drew.below (Nat.le_refl _) (by simp; omega)
  obtain ⟨c0, c1, c2, c3, f⟩ := h5
  obtain ⟨g0, g1, g2, g3, gg⟩ := n5
  have f0 := f 0
  have f1 := f 1
  have f2 := f 2
  have f3 := f 3
  clear f gg kn kx
  go_region
  clear c0 c1 c2 c3 f0 f1 f2 f3 g0 g1 g2 g3 cv5
  generalize ((((w7.setCell ⟨w.heap.size + 1 + 1, 0, none⟩ (.int .i64 0)).setCell ⟨w.heap.size + 1 + 1, 1, none⟩ (.int .u32 0)).setCell ⟨w.heap.size + 1 + 1, 2, none⟩ (.int .u32 0)).setCell ⟨w.heap.size + 1 + 1, 3, none⟩ (.int .i64 0)).drew = w8 at *
  obtain ⟨d0, d1, d2, d3, -⟩ := hx
  go_wp2_with fail
  exact bodyPost_ret (v := .tuple #[.int .u64 v, fltV 0 0 0 0, .bool true]) (by simp [results, Try.results13, go_sem, d0, d1, d2, d3]) rfl ⟨rfl, kz⟩
end Go.Proofs.Ytmlaancmacipoaa
