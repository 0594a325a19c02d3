/- A word as the laws write it; what a host that has words does. -/
import Derived.Test.YtcddhlepkmbkcaaDoorG0
import Derived.Test.YtcddhlepkmbkcaaDoorC8
import Derived.Deep.WholeRow
import Derived.Deep.Cut
import Derived.Deep.CutRange
namespace Go.Proofs.YtcddhlepkmbkcaaDoor
open Go.RowKit
set_option linter.unusedVariables false
set_option linter.unusedSimpArgs false
set_option linter.unusedSectionVars false

theorem word_law (op d a b i x : Int) (hl : isL op d a b i = true) (he : encL op d a b i = x) (w : World) : Calls Tryd.prog 28 #[wordV op d a b i] w fun e w' => e = .returned (.int .u32 x) ∧ Below w.heap.size w w' := by
  have hi := (isL_regs hl).2.2.2.2
  have hr := fun w => rEnc_any op d a b i hi w
  rw [hl, he, if_pos rfl] at hr
  have b0 := (Below.refl w.heap.size w).alloc (Nat.le_refl _) (.cells #[.int .i64 op, .int .i64 d, .int .i64 a, .int .i64 b, .int .i32 i] 23)
  go_enter Tryd.func28, Tryd.ntmps28
  go_wp2_with fail
  refine (hr _).mono ?_
  rintro e w1 ⟨rfl, k1⟩
  replace k1 := b0.trans (k1.mono (by simp))
  go_wp2_with fail
  go_ret
  exact ⟨rfl, k1⟩
theorem aWord {w0 w : World} {B : Nat} {s : St} (a : At w0 w B s) (op d r1 r2 i x : Int) (hl : isL op d r1 r2 i = true) (he : encL op d r1 r2 i = x) :
    Calls Tryd.prog 28 #[wordV op d r1 r2 i] w fun e w' => e = .returned (.int .u32 x) ∧ At w0 w' B s :=
  (word_law op d r1 r2 i x hl he w).mono fun e w' h => ⟨h.1, a.below h.2⟩
theorem wfi_u32 {a : Int} (h : (Lit.int .u32 a).wf = true) : 0 ≤ a ∧ a ≤ 4294967295 := by
  simp [Lit.wf, IntKind.min, IntKind.max, IntKind.signed] at h
  obtain ⟨h0, h1⟩ := h
  exact ⟨h0, h1⟩
theorem isL_of (k f : Nat) (h1 : 1 ≤ k) (h2 : k ≤ 47) (hf : formN k = f) (d s t i : Int) (hd : regL d (hasD f) = true) (hs : regL s (hasS f) = true) (ht : regL t (hasT f) = true)
    (hi : leastN f ≤ i) (hi2 : i ≤ greatestN f) (hi3 : i % (lowN f + 1) = 0) (op : Int) (ho : op = k) : isL op d s t i = true := by
  subst ho
  subst hf
  unfold isL okF
  rw [Int.toNat_natCast, decide_eq_true (show 1 ≤ (k : Int) by omega), decide_eq_true (show (k : Int) ≤ 47 by omega), hd, hs, ht, decide_eq_true hi, decide_eq_true hi2, decide_eq_true hi3]; rfl
def loadL (s : St) (p n : Int) : Int := if fitsL p n = true then wordM s.m p n else 0
theorem aLoadB {w0 w : World} {B : Nat} {s : St} (a : At w0 w B s) (p n : Int) (ha : 0 ≤ p ∧ p ≤ 4294967295) :
    Calls Tryd.prog 25 #[hp B, .int .u32 p, .int .i64 n] w fun e w' => e = .returned (.tuple #[.int .u32 (loadL s p n), .bool (fitsL p n)]) ∧ At w0 w' B s := by
  unfold loadL
  cases hf : fitsL p n with
  | true => rw [if_pos rfl]; exact aLoad a p n _ ha hf rfl
  | false => rw [if_neg (by decide)]; exact aLoadNo a p n ha hf
/-- A new host with two registers and one word. -/
def oneS (p v x : Int) : St := storeS (setS (setS newS 1 p) 2 v) 1024 4 x
theorem oneS_step {p v x op d r1 r2 i : Int} (hl : isL op d r1 r2 i = true) (he : encL op d r1 r2 i = x) : stepL (oneS p v x) = (doL (oneS p v x) op d r1 r2 i).told (oneS p v x) := by
  refine step_word (by rfl) ?_ hl
  rw [he]
  exact load_store (he ▸ enc_bd hl)
theorem oneS_x1 (p v x : Int) : (oneS p v x).x 1 = p := by simp [oneS, storeS, setS, setX]
theorem oneS_x2 (p v x : Int) : (oneS p v x).x 2 = v := by simp [oneS, storeS, setS, setX]
theorem oneS_x3 (p v x : Int) : (oneS p v x).x 3 = 0 := by simp [oneS, storeS, setS, setX, newS]
theorem oneS_pc (p v x : Int) : (oneS p v x).pc = 1024 := rfl
def zero20 : Array Value := ((List.range 4).flatMap fun _ => [Value.int .i64 0, .int .i64 0, .int .i64 0, .int .i64 0, .int .i32 0]).toArray
theorem info20 : (Tryd.prog.info? 52).map (fun i => (i.zero, i.size)) = some (some (.agg zero20), 20) := by kernel_rfl
theorem build_to {P : Program} {ops : Array Oper} {rest : List Oper} {o : Oper} {a : Act} {w : World} {Q : Exit → Act → World → Prop} (hg : o.guard = none) (t : TypeId) (parts : Array (Nat × Operand)) (ho : o.op = .build t parts)
    (cells : Array Value) (hb : P.built t (parts.map fun (i, x) => (i, a.eval x)).toList = some cells) (h : wpList P ops Q rest (a.put o.dst (.agg cells)) w) : wpList P ops Q (o :: rest) a w :=
  wpList_build hg t parts ho (by rw [hb]; rfl) (by rw [hb]; exact h)
theorem exit_world {Q : Exit → Act → World → Prop} {e : Exit} {a : Act} {W W' : World} (h : W = W') (hc : Q e a W') : Q e a W := h ▸ hc
theorem at_world {P : Program} {c : Code} {Q : Exit → Act → World → Prop} {a : Act} {W W' : World} (h : W = W') (hc : Code.wp P c Q a W') : Code.wp P c Q a W := h ▸ hc
end Go.Proofs.YtcddhlepkmbkcaaDoor
