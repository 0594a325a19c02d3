/- A word as the laws write it; what a host that has words does. -/
import Derived.Test.YtbalnlodkiejcaaDoorG0
import Derived.Test.YtbalnlodkiejcaaDoorC8
import Derived.Deep.WholeRow
import Derived.Deep.Cut
import Derived.Deep.CutRange
namespace Go.Proofs.YtbalnlodkiejcaaDoor
open Go.RowKit
set_option linter.unusedVariables false
set_option linter.unusedSimpArgs false
set_option linter.unusedSectionVars false

theorem wfi_u32 {a : Int} (h : (Lit.int .u32 a).wf = true) : 0 ≤ a ∧ a ≤ 4294967295 := by
  simp [Lit.wf, IntKind.min, IntKind.max, IntKind.signed] at h
  obtain ⟨h0, h1⟩ := h
  exact ⟨h0, h1⟩
theorem isL_of (k f : Nat) (h1 : 1 ≤ k) (h2 : k ≤ 47) (hf : formN k = f) (d s t i : Int) (hd : regL d (hasD f) = true) (hs : regL s (hasS f) = true) (ht : regL t (hasT f) = true)
    (hi : leastN f ≤ i) (hi2 : i ≤ greatestN f) (hi3 : i % (lowN f + 1) = 0) (op : Int) (ho : op = k) : isL op d s t i = true := by
  subst ho
  subst hf
  unfold isL okF
  rw [Int.toNat_natCast, decide_eq_true (show 1 ≤ (k : Int) by omega), decide_eq_true (show (k : Int) ≤ 47 by omega), hd, hs, ht, decide_eq_true hi, decide_eq_true hi2, decide_eq_true hi3]; rfl
def loadL (s : St) (p n : Int) : Int := if fitsL p n = true then wordM s.m p n else 0
/-- A new host with two registers and one word. -/
def oneS (p v x : Int) : St := storeS (setS (setS newS 1 p) 2 v) 1024 4 x
theorem oneS_step {p v x op d r1 r2 i : Int} (hl : isL op d r1 r2 i = true) (he : encL op d r1 r2 i = x) : stepL (oneS p v x) = (doL (oneS p v x) op d r1 r2 i).told (oneS p v x) := by
  refine step_word (by rfl) ?_ hl
  rw [he]
  exact load_store (he ▸ enc_bd hl)
theorem oneS_x1 (p v x : Int) : (oneS p v x).x 1 = p := by simp [oneS, storeS, setS, setX]
theorem oneS_x2 (p v x : Int) : (oneS p v x).x 2 = v := by simp [oneS, storeS, setS, setX]
theorem oneS_x3 (p v x : Int) : (oneS p v x).x 3 = 0 := by simp [oneS, storeS, setS, setX, newS]
theorem oneS_pc (p v x : Int) : (oneS p v x).pc = 1024 := rfl
def zero20 : Array Value := ((List.range 4).flatMap fun _ => [Value.int .i64 0, .int .i64 0, .int .i64 0, .int .i64 0, .int .i32 0]).toArray
theorem build_to {P : Program} {ops : Array Oper} {rest : List Oper} {o : Oper} {a : Act} {w : World} {Q : Exit → Act → World → Prop} (hg : o.guard = none) (t : TypeId) (parts : Array (Nat × Operand)) (ho : o.op = .build t parts)
    (cells : Array Value) (hb : P.built t (parts.map fun (i, x) => (i, a.eval x)).toList = some cells) (h : wpList P ops Q rest (a.put o.dst (.agg cells)) w) : wpList P ops Q (o :: rest) a w :=
  wpList_build hg t parts ho (by rw [hb]; rfl) (by rw [hb]; exact h)
theorem exit_world {Q : Exit → Act → World → Prop} {e : Exit} {a : Act} {W W' : World} (h : W = W') (hc : Q e a W') : Q e a W := h ▸ hc
theorem at_world {P : Program} {c : Code} {Q : Exit → Act → World → Prop} {a : Act} {W W' : World} (h : W = W') (hc : Code.wp P c Q a W') : Code.wp P c Q a W := h ▸ hc
end Go.Proofs.YtbalnlodkiejcaaDoor
