/- The page memory of a law's own; known. -/
import Derived.Test.YtmlaancmacipoaaD3
import Derived.Lib.Hide
namespace Go.Proofs.Ytmlaancmacipoaa
open Go.RowKit
set_option linter.unusedVariables false
set_option linter.unusedSimpArgs false
set_option linter.unusedSectionVars false

/-- What is told of a fault, or of none. -/
def fltK (o : Option Nat) : Int := match o with | none => 0 | some _ => 1
def fltA (o : Option Nat) (a : Int) : Int := match o with | none => 0 | some j => (a + j) % 4294967296
def fltW (o : Option Nat) (r : Int) : Int := match o with | none => 0 | some _ => r
abbrev fltOf (o : Option Nat) (a r : Int) : Value := fltV (fltK o) 0 (fltA o a) (fltW o r)
def wroteM (m : Mm) (a n v : Int) : Mm := if (lackL m a 2 (numL n)).isNone = true then wroteS m a.toNat n v else m
def readM (m : Mm) (a n r : Int) : Int := if (lackL m a (singleL r) (numL n)).isNone = true then readL m a.toNat (numL n) else 0
abbrev U32 (a : Int) : Prop := 0 ≤ a ∧ a ≤ 4294967295
theorem right_in {x r : Int} (hx : 0 ≤ x ∧ x ≤ 7) (hr : r = 1 ∨ r = 2 ∨ r = 4) (h : x / r % 2 ≠ 0) : x ≠ 0 := by
  rintro rfl
  rcases hr with rfl | rfl | rfl <;> simp at h
theorem wroteM_ok {m : Mm} (ok : m.ok) (a : Int) (ha : U32 a) (n v : Int) : (wroteM m a n v).ok := by
  unfold wroteM
  split
  · rename_i h
    have hl := Option.isNone_iff_eq_none.1 h
    have hn := num_bd n
    have he := lack_end ok ha hn.2 hl hn.1
    unfold wroteS
    refine putB_ok ok _ _ (bytesV_bd _ _) fun i hi => ?_
    rw [bytesV_len] at hi
    have := lack_none hl i hi
    unfold lackP at this
    have e : (a + i) % 4294967296 = a + i := Int.emod_eq_of_lt (by omega) (by omega)
    rw [decide_eq_false_iff_not, e] at this
    rw [show (a.toNat + i) / 256 = ((a + i) / 256).toNat by omega]
    exact right_in (ok.r _) (by omega) this
  · exact ok
theorem Write_any {B : Nat} {m : Mm} {w : World} (h : PAt w B m) (ok : m.ok) (a : Int) (ha : U32 a) (n v : Int) (hv : U32 v) :
    Calls Try.prog 46 #[mp B, .int .u32 a, .int .i64 n, .int .u32 v] w fun e w' => e = .returned (.tuple #[fltOf (lackL m a 2 (numL n)) a 2, .bool (lackL m a 2 (numL n)).isNone]) ∧ PAt w' B (wroteM m a n v) ∧ But [B] w.heap.size w w' := by
  obtain ⟨A, rfl⟩ := Int.eq_ofNat_of_zero_le ha.1
  unfold wroteM
  cases hl : lackL m A 2 (numL n) with
  | none => rw [if_pos (show (none : Option Nat).isNone = true from rfl), Int.toNat_natCast]; exact Write_yes h ok A (by omega) n v hv hl
  | some j => rw [if_neg (by simp)]; exact (Write_no h ok A j (by omega) n v hl).mono fun e w' hh => ⟨hh.1, h.below hh.2 h.lt, But.of hh.2 _⟩
theorem Read_any {B : Nat} {m : Mm} {w : World} (h : PAt w B m) (ok : m.ok) (a : Int) (ha : U32 a) (n r : Int) :
    Calls Try.prog 49 #[mp B, .int .u32 a, .int .i64 n, .int .i64 r] w fun e w' => e = .returned (.tuple #[.int .u32 (readM m a n r), fltOf (lackL m a (singleL r) (numL n)) a (singleL r), .bool (lackL m a (singleL r) (numL n)).isNone]) ∧ Below w.heap.size w w' := by
  obtain ⟨A, rfl⟩ := Int.eq_ofNat_of_zero_le ha.1
  unfold readM
  cases hl : lackL m A (singleL r) (numL n) with
  | none => rw [if_pos (show (none : Option Nat).isNone = true from rfl), Int.toNat_natCast]; exact Read_yes h ok A (by omega) n r hl
  | some j => rw [if_neg (by simp)]; exact Read_no h ok A j (by omega) n r hl
structure Pg (n0 : Nat) (w0 w : World) (B : Nat) (m : Mm) : Prop where
  h : PAt w B m
  ok : m.ok
  k : But [B] n0 w0 w
  l : n0 ≤ B
section
variable {n0 : Nat} {w0 w : World} {B : Nat} {m : Mm}
theorem Pg.done (p : Pg n0 w0 w B m) : Below n0 w0 w := p.k.below (Nat.le_refl _) (by simpa using p.l)
theorem Pg.sz (p : Pg n0 w0 w B m) : n0 ≤ w.heap.size := Nat.le_of_lt (Nat.lt_of_le_of_lt p.l p.h.lt)
theorem Pg.step {w' : World} {m' : Mm} (p : Pg n0 w0 w B m) (h : PAt w' B m') (ok : m'.ok) (k : But [B] w.heap.size w w') : Pg n0 w0 w' B m' := ⟨h, ok, p.k.trans (k.mono p.sz (by simp)), p.l⟩
theorem Pg.below {w' : World} (p : Pg n0 w0 w B m) (k : Below w.heap.size w w') : Pg n0 w0 w' B m := p.step (p.h.below k p.h.lt) p.ok (But.of k _)
theorem pNew (w : World) : Calls Try.prog 14 #[] w fun e w' => e = .returned (mp w.heap.size) ∧ Pg w.heap.size w w' w.heap.size Mm.new :=
  (New_any w).mono fun e w' h => ⟨h.1, h.2.1, new_okM, But.of h.2.2 _, Nat.le_refl _⟩
theorem pMap (p : Pg n0 w0 w B m) (pg n v : Int) (hp : I64 pg) : Calls Try.prog 18 #[mp B, .int .i64 pg, .int .i64 n, .int .i64 v] w fun e w' => e = .returned (.int .i64 (errM (mapE m pg n v))) ∧ Pg n0 w0 w' B (mapS m pg n v) ∧ But [B] w.heap.size w w' :=
  (Map_any p.h pg n v hp).mono fun e w' h => ⟨h.1, p.step h.2.1 (mapS_ok p.ok _ _ _) h.2.2, h.2.2⟩
theorem pWrite (p : Pg n0 w0 w B m) (a n v : Int) (ha : U32 a) (hv : U32 v) : Calls Try.prog 46 #[mp B, .int .u32 a, .int .i64 n, .int .u32 v] w fun e w' => e = .returned (.tuple #[fltOf (lackL m a 2 (numL n)) a 2, .bool (lackL m a 2 (numL n)).isNone]) ∧ Pg n0 w0 w' B (wroteM m a n v) ∧ But [B] w.heap.size w w' :=
  (Write_any p.h p.ok a ha n v hv).mono fun e w' h => ⟨h.1, p.step h.2.1 (wroteM_ok p.ok _ ha _ _) h.2.2, h.2.2⟩
theorem pRead (p : Pg n0 w0 w B m) (a n r : Int) (ha : U32 a) : Calls Try.prog 49 #[mp B, .int .u32 a, .int .i64 n, .int .i64 r] w fun e w' => e = .returned (.tuple #[.int .u32 (readM m a n r), fltOf (lackL m a (singleL r) (numL n)) a (singleL r), .bool (lackL m a (singleL r) (numL n)).isNone]) ∧ Pg n0 w0 w' B m ∧ Below w.heap.size w w' :=
  (Read_any p.h p.ok a ha n r).mono fun e w' h => ⟨h.1, p.below h.2, h.2⟩
theorem pRights (p : Pg n0 w0 w B m) (pg : Int) : Calls Try.prog 28 #[mp B, .int .i64 pg] w fun e w' => e = .returned (.int .i64 (rightsL m pg)) ∧ w = w' := Rights_any p.h pg
theorem pPeek (p : Pg n0 w0 w B m) (a n : Int) (ha : U32 a) (hn : n ≤ 9223372036854775807) : Calls Try.prog 29 #[mp B, .int .u32 a, .int .i64 n] w fun e w' => (∃ x cap, e = .returned (.slice x (mappedL m a n.toNat) cap) ∧ Row8 w' x (mappedL m a n.toNat) (peekL m a n.toNat)) ∧ Pg n0 w0 w' B m ∧ Below w.heap.size w w' :=
  (Peek_any p.h p.ok a ha n hn).mono fun e w' h => ⟨h.1, p.below h.2, h.2⟩
end
/-- The memory that 'known' makes. -/
def kM1 : Mm := mapS Mm.new 0 1 3
def kM2 : Mm := wroteM kM1 0 4 16909060
theorem kn1 : mapE Mm.new 0 1 3 = true ∧ mapE kM1 0 1 3 = false := by refine ⟨?_, ?_⟩ <;> kernel_rfl
theorem kn2 : lackL kM1 254 2 (numL 4) = some 2 ∧ lackL kM1 0 2 (numL 4) = none ∧ lackL kM2 1 (singleL 1) (numL 2) = none ∧ lackL kM2 16384 2 (numL 1) = some 0 := by refine ⟨?_, ?_, ?_, ?_⟩ <;> kernel_rfl
theorem kn3 : readM kM2 1 2 1 = 515 ∧ rightsL kM2 0 = 3 ∧ rightsL kM2 64 = 0 ∧ mappedL kM2 250 100 = 6 := by refine ⟨?_, ?_, ?_, ?_⟩ <;> kernel_rfl
theorem kn4 : mapS kM1 0 1 3 = kM1 ∧ wroteM kM1 254 4 9 = kM1 ∧ wroteM kM2 16384 1 0 = kM2 := by
  refine ⟨?_, ?_, ?_⟩
  · unfold mapS; rw [kn1.2]; rfl
  · unfold wroteM; rw [kn2.1]; rfl
  · unfold wroteM; rw [kn2.2.2.2]; rfl
end Go.Proofs.Ytmlaancmacipoaa
