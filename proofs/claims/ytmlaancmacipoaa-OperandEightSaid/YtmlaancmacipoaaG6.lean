/- operand.Write8, where it can't be; the faces of Read and Write, by kind. -/
import Derived.Test.YtmlaancmacipoaaG4
import Derived.Test.YtmlaancmacipoaaG5
namespace Go.Proofs.Ytmlaancmacipoaa
open Go.RowKit
set_option linter.unusedVariables false
set_option linter.unusedSimpArgs false
set_option linter.unusedSectionVars false

theorem Read_mem {B : Nat} {m : Mm} {w : World} (h : PAt w B m) (ok : m.ok) (g : Gs) (o : On) (n : Int) (hk : o.k = 3) {q : Nat} (hq : numL (numO n) = q) (hl : lackL m (plO g o) 1 q = none) :
    Calls Try.prog 16 #[mp B, stV g, opV o, .int .i64 n] w fun e w' => e = .returned (.tuple #[.int .u32 (readL m (plO g o).toNat q), fltV 0 0 0 0, .bool true]) ∧ Below w.heap.size w w' := by
  subst hq
  exact oRead_yes h g o n _ (fun W hW => read_mem hW ok g o (numO n) hk hl)
theorem Read_reg {B : Nat} {m : Mm} {w : World} (h : PAt w B m) (g : Gs) (o : On) (n : Int) (hk : o.k = 1) (hn : numO n = 4) :
    Calls Try.prog 16 #[mp B, stV g, opV o, .int .i64 n] w fun e w' => e = .returned (.tuple #[.int .u32 (regV g o.r), fltV 0 0 0 0, .bool true]) ∧ Below w.heap.size w w' :=
  oRead_yes h g o n _ (fun W hW => by rw [hn]; exact read_reg4 (mp B) g o hk W)
theorem Write_mem {B : Nat} {m : Mm} {w : World} (h : PAt w B m) (ok : m.ok) (g : Gs) (o : On) (n v : Int) (hv : 0 ≤ v ∧ v ≤ 4294967295) (hk : o.k = 3) (hl : lackL m (plO g o) 2 (numL (numO n)) = none) :
    Calls Try.prog 15 #[mp B, stV g, opV o, .int .i64 n, .int .u32 v] w fun e w' => e = .returned (.tuple #[stV g, fltV 0 0 0 0, .bool true]) ∧ PAt w' B (wroteS m (plO g o).toNat (numO n) v) ∧ But [B] w.heap.size w w' :=
  oWrite_yes h g o n v g _ (fun W hW => written_mem hW ok g o (numO n) v hv hk hl)
theorem Write_reg {B : Nat} {m : Mm} {w : World} (h : PAt w B m) (g : Gs) (o : On) (n v : Int) (j : Nat) (hj : j < 8) (hk : o.k = 1) (hr : o.r = j) (hn : numO n = 4) :
    Calls Try.prog 15 #[mp B, stV g, opV o, .int .i64 n, .int .u32 v] w fun e w' => e = .returned (.tuple #[stV (setr g j v), fltV 0 0 0 0, .bool true]) ∧ PAt w' B m ∧ But [B] w.heap.size w w' :=
  oWrite_yes h g o n v (setr g j v) m (fun W hW => by rw [hn]; exact (written_reg4 (mp B) g o j hj hk hr v W).mono fun e w' hh => ⟨hh.1, hW.below hh.2 hW.lt, But.of hh.2 _⟩)
/-- What Write8 has boxed. -/
structure EBx (W : World) (B Km Ka Kv : Nat) (a v : Int) : Prop where
  m : W.cell? ⟨Km, 0, none⟩ = some (mp B)
  a : W.cell? ⟨Ka, 0, none⟩ = some (.int .u32 a)
  v : W.cell? ⟨Kv, 0, none⟩ = some (.int .u64 v)
theorem EBx.below {W W' : World} {B Km Ka Kv : Nat} {a v : Int} (k : EBx W B Km Ka Kv a v) (b : Below W.heap.size W W') : EBx W' B Km Ka Kv a v :=
  ⟨(b.cell (p := ⟨Km, 0, none⟩) (size_of_cell k.m)).trans k.m, (b.cell (p := ⟨Ka, 0, none⟩) (size_of_cell k.a)).trans k.a, (b.cell (p := ⟨Kv, 0, none⟩) (size_of_cell k.v)).trans k.v⟩
set_option maxRecDepth 20000 in
theorem write8_no1 {B Km Ka Kv : Nat} {m : Mm} {w : World} (h : PAt w B m) (ok : m.ok) (a v : Int) (ha : 0 ≤ a ∧ a ≤ 4294967295) (k : EBx w B Km Ka Kv a v) (j : Nat) (hj : j < 8) (hl : ∀ i, i < j → lkL m 2 ((a + i) % 4294967296) = 0) (hx : ¬ lkL m 2 ((a + j) % 4294967296) = 0) :
    Calls Try.prog 25 #[cp Km, cp Ka, cp Kv] w fun e w' => e = .panicked (fltP ((a + j) % 4294967296) (wantL (lkL m 2 ((a + j) % 4294967296)))) ∧ Below w.heap.size w w' := by
  have hA : RowKit.Hid (∀ W, PAt W B m → Calls Try.prog 26 #[mp B, .int .u32 a, .int .i64 8, .int .i64 2] W fun e w' => e = .panicked (fltP ((a + j) % 4294967296) (wantL (lkL m 2 ((a + j) % 4294967296)))) ∧ W = w') := Lib.hid (fun W hW => ask_no hW ok 2 a ha 8 j (by decide) hj hl hx)
  clear hl hx
  obtain ⟨c0, c1, c2⟩ := k
  go_enter Try.func25, Try.ntmps25
  go_wp2_with ((with_reducible refine (hA.out _ h).mono ?_); rintro e w1 ⟨rfl, hw⟩; subst hw; exact ⟨rfl, rfl, Below.refl _ _⟩)
theorem ebx_new {B : Nat} {m : Mm} {w : World} (h : PAt w B m) (a v : Int) : PAt ((((w.alloc (.cells #[mp B] 26)).alloc (.cells #[.int .u32 a] 23)).alloc (.cells #[.int .u64 v] 24)).alloc (.cells f0A 32)) B m ∧ EBx ((((w.alloc (.cells #[mp B] 26)).alloc (.cells #[.int .u32 a] 23)).alloc (.cells #[.int .u64 v] 24)).alloc (.cells f0A 32)) B (w.heap.size) (w.heap.size + 1) (w.heap.size + 1 + 1) a v ∧ Four ((((w.alloc (.cells #[mp B] 26)).alloc (.cells #[.int .u32 a] 23)).alloc (.cells #[.int .u64 v] 24)).alloc (.cells f0A 32)) (w.heap.size + 1 + 1 + 1) 0 0 0 0 ∧ Below w.heap.size w ((((w.alloc (.cells #[mp B] 26)).alloc (.cells #[.int .u32 a] 23)).alloc (.cells #[.int .u64 v] 24)).alloc (.cells f0A 32)) ∧ ((((w.alloc (.cells #[mp B] 26)).alloc (.cells #[.int .u32 a] 23)).alloc (.cells #[.int .u64 v] 24)).alloc (.cells f0A 32)).heap.size = w.heap.size + 4 := by
  have b := (((((Below.refl w.heap.size w).alloc (Nat.le_refl _) (.cells #[mp B] 26)).alloc (by simp) (.cells #[.int .u32 a] 23)).alloc (by simp; omega) (.cells #[.int .u64 v] 24)).alloc (by simp; omega) (.cells f0A 32))
  have f5 := Four.begun (((w.alloc (.cells #[mp B] 26)).alloc (.cells #[.int .u32 a] 23)).alloc (.cells #[.int .u64 v] 24)) 0 0 0 0 32
  simp only [World.size_alloc] at f5
  exact ⟨((((h.alloc _).alloc _).alloc _).alloc _), ⟨by simp [go_sem], by simp [go_sem], by simp [go_sem]⟩, f5, b, by simp⟩
set_option maxRecDepth 20000 in
theorem Write8_no {B : Nat} {m : Mm} {w : World} (h : PAt w B m) (ok : m.ok) (a v : Int) (ha : 0 ≤ a ∧ a ≤ 4294967295) (j : Nat) (hj : j < 8) (hl : ∀ i, i < j → lkL m 2 ((a + i) % 4294967296) = 0) (hx : ¬ lkL m 2 ((a + j) % 4294967296) = 0) :
    Calls Try.prog 11 #[mp B, .int .u32 a, .int .u64 v] w fun e w' => e = .returned (.tuple #[fltV 1 0 ((a + j) % 4294967296) (wantL (lkL m 2 ((a + j) % 4294967296))), .bool false]) ∧ Below w.heap.size w w' := by
  have hmf : ∀ (fn : Fn) (first cap : Array Value) (w : World), (Instr.makeFunc fn first cap).run Try.prog w = .ok (.func fn first cap) w := fun _ _ _ _ => rfl
  obtain ⟨h5, hbx, h4, k5, s5⟩ := ebx_new h a v
  have hc := Lib.hid (fun (W : World) (hW : Below ((((w.alloc (.cells #[mp B] 26)).alloc (.cells #[.int .u32 a] 23)).alloc (.cells #[.int .u64 v] 24)).alloc (.cells f0A 32)).heap.size ((((w.alloc (.cells #[mp B] 26)).alloc (.cells #[.int .u32 a] 23)).alloc (.cells #[.int .u64 v] 24)).alloc (.cells f0A 32)) W) => write8_no1 (h5.below hW h5.lt) ok a v ha (hbx.below hW) j hj hl hx)
  clear hl hx
  generalize hA : (a + j) % 4294967296 = A at *
  generalize hT : wantL (lkL m 2 A) = T at *
  have HA := Lib.hid hA
  have HT := Lib.hid hT
  clear hA hT
  go_enter Try.func11, Try.ntmps11
  go_wp2_with fail
  generalize ((((w.alloc (.cells #[mp B] 26)).alloc (.cells #[.int .u32 a] 23)).alloc (.cells #[.int .u64 v] 24)).alloc (.cells #[.int .i64 0, .int .u32 0, .int .u32 0, .int .i64 0] 32)) = w5 at *
  refine (otriedW8_no _ 1 0 A T (fun W hW => hc.out W hW)).mono ?_
  rintro e w6 ⟨rfl, k6⟩
  replace h4 := h4.but (But.of k6 []) (by omega) (by simp)
  have hx := h4.stored 1 0 A T
  have kx := (But.of (k5.trans (k6.mono (by omega))) [w.heap.size + 1 + 1 + 1]).stored4 (K := w.heap.size + 1 + 1 + 1) (by simp) (.int .i64 1) (.int .u32 0) (.int .u32 A) (.int .i64 T)
  obtain ⟨c0, c1, c2, c3, f⟩ := h4
  have q0 := f 0
  have q1 := f 1
  have q2 := f 2
  have q3 := f 3
  clear f hmf k5 k6 hbx hc h5
  go_wp2_with fail
  clear c0 c1 c2 c3 q0 q1 q2 q3
  generalize ((((w6.setCell ⟨w.heap.size + 1 + 1 + 1, 0, none⟩ (.int .i64 1)).setCell ⟨w.heap.size + 1 + 1 + 1, 1, none⟩ (.int .u32 0)).setCell ⟨w.heap.size + 1 + 1 + 1, 2, none⟩ (.int .u32 A)).setCell ⟨w.heap.size + 1 + 1 + 1, 3, none⟩ (.int .i64 T)) = w7 at *
  obtain ⟨d0, d1, d2, d3, -⟩ := hx
  exact bodyPost_ret (v := .tuple #[fltV 1 0 A T, .bool false]) (by simp [results, Try.results11, go_sem, d0, d1, d2, d3]) rfl ⟨by have h1 := HA.out; subst h1; have h2 := HT.out; subst h2; rfl, kx.below (Nat.le_refl _) (by simp; omega)⟩
end Go.Proofs.Ytmlaancmacipoaa
