/- A memory that is made, copied, compared; bytes peeked and poked; what a fault is. -/
import Derived.Test.YtmlaancmacipoaaP1
import Derived.Deep.WholeRow
import Derived.BigQuiet
import Derived.Deep.QuietTactic
import Derived.Deep.OwnRows
import Derived.Deep.MidRow
import Derived.ChangeKeysEq
namespace Go.Proofs.Ytmlaancmacipoaa
open Go.RowKit
set_option linter.unusedVariables false
set_option linter.unusedSimpArgs false
set_option linter.unusedSectionVars false

def allK (k : IntKind) : List Value → Bool
  | [] => true
  | v :: l => (match v with | .int k' n => k' == k && n == 0 | _ => false) && allK k l
theorem allK_at {k : IntKind} : ∀ {l : List Value}, allK k l = true → ∀ i, i < l.length → l[i]? = some (.int k 0)
  | [], _, i, hi => by simp at hi
  | v :: l, h, i, hi => by
    unfold allK at h
    rw [Bool.and_eq_true] at h
    cases i with
    | zero =>
      cases v <;> simp at h
      simp [h.1.1, h.1.2]
    | succ i => simpa using allK_at h.2 i (by simpa using hi)
def chkM : Option Value → Bool
  | some (.agg cs) => cs.size == 16448 && (allK .i64 (cs.toList.take 64) && allK .u8 (cs.toList.drop 64))
  | _ => false
theorem chk_mem {cs : Array Value} (h : chkM (some (.agg cs)) = true) : MC cs Mm.new := by
  unfold chkM at h
  simp only [Bool.and_eq_true, beq_iff_eq] at h
  obtain ⟨h1, h2, h3⟩ := h
  refine ⟨h1, fun i hi => ?_, fun i hi => ?_⟩
  · have := allK_at h2 i (by simp [h1]; omega)
    simpa [List.getElem?_take, hi, Mm.new] using this
  · have := allK_at h3 i (by simp [h1]; omega)
    simpa [List.getElem?_drop, Mm.new] using this
/-- The zero value of a type, as the program has it. -/
def zcells (P : Program) (t : TypeId) : Array Value := match (P.info? t).bind (·.zero) with | some (.agg cs) => cs | _ => #[]
theorem chk_page : chkM (some (.agg (zcells Try.prog 78))) = true := by kernel_rfl
theorem zero_page : ∃ Z : Array Value, (∀ w, (zeroValue 78).run Try.prog w = .ok (.agg Z) w) ∧ MC Z Mm.new ∧ Z ≠ #[] :=
  ⟨zcells Try.prog 78, fun w => by kernel_rfl, chk_mem chk_page, fun h => by have := (chk_mem chk_page).size; rw [h] at this; cases this⟩
theorem New_any (w : World) : Calls Try.prog 14 #[] w fun e w' => e = .returned (mp w.heap.size) ∧ PAt w' w.heap.size Mm.new ∧ Below w.heap.size w w' := by
  obtain ⟨Z, hz, hc, hne⟩ := zero_page
  have hx : PAt (w.alloc (.cells Z 78)) w.heap.size Mm.new := ⟨_, alloc_new _ _, hc⟩
  have kx : Below w.heap.size w (w.alloc (.cells Z 78)) := (Below.refl _ _).alloc (Nat.le_refl _) _
  clear hc
  go_enter Try.func14, Try.ntmps14
  go_wp2_with fail
  go_ret
  exact ⟨rfl, hx, kx⟩
theorem mapped_nat {B : Nat} {m : Mm} {w : World} (h : PAt w B m) (ok : m.ok) (a : Int) (ha : 0 ≤ a ∧ a ≤ 4294967295) (n : Nat) (hn : n ≤ 9223372036854775807) :
    Calls Try.prog 48 #[mp B, .int .u32 a, .int .i64 n] w fun e w' => e = .returned (.int .i64 (mappedL m a n : Nat)) ∧ w = w' := by
  go_enter Try.func48, Try.ntmps48
  go_wp2_with fail
  go_loopw [7] (fun ii W => ∃ k : Nat, k ≤ n ∧ ii = .int .i64 k ∧ W = w ∧ mappedL m a k = k) (fun ii _ => (n - intOf ii).toNat)
  case atStart => exact ⟨0, by omega, rfl, rfl, rfl⟩
  case round =>
    obtain ⟨k, hk, rfl, rfl, hm⟩ := hrel
    have hm' := hid hm
    clear hm
    by_cases hlt : k < n
    · have hr := rightsAt_any h ok ((a + k) % 4294967296) (by omega)
      cases hz : decide (placeL m ((a + k) % 4294967296) = 0) with
      | true =>
        rw [decide_eq_true_eq] at hz
        have hs : Hid (mappedL m a n = k) := hid (mapped_stop hm'.out hz n hk)
        rw [hz] at hr
        clear hz
        go_wp2_with fail
        go_at_call 61
        refine hr.mono ?_
        rintro e w' ⟨rfl, rfl⟩
        go_wp2_with fail
        go_ret
        exact ⟨ret_int (by rw [hs.out]), rfl⟩
      | false =>
        rw [decide_eq_false_iff_not] at hz
        have hs : Hid (mappedL m a (k + 1) = k + 1) := hid (mapped_go hm'.out hz)
        generalize placeL m ((a + k) % 4294967296) = y at *
        go_wp2_with fail
        go_at_call 61
        refine hr.mono ?_
        rintro e w' ⟨rfl, rfl⟩
        go_wp2_with fail
        go_roundw
        case rel => exact ⟨k + 1, by omega, by go_num, trivial, hs.out⟩
        case measure => simp [intOf]; omega
    · obtain rfl : k = n := by omega
      go_wp2_with fail
      go_ret
      exact ⟨ret_int (by rw [hm'.out]), rfl⟩
theorem mapped_any {B : Nat} {m : Mm} {w : World} (h : PAt w B m) (ok : m.ok) (a : Int) (ha : 0 ≤ a ∧ a ≤ 4294967295) (n : Int) (hn : n ≤ 9223372036854775807) :
    Calls Try.prog 48 #[mp B, .int .u32 a, .int .i64 n] w fun e w' => e = .returned (.int .i64 (mappedL m a n.toNat : Nat)) ∧ w = w' := by
  by_cases h0 : 0 ≤ n
  · obtain ⟨N, rfl⟩ := Int.eq_ofNat_of_zero_le h0
    rw [Int.toNat_natCast]
    exact mapped_nat h ok a ha N (by omega)
  · rw [show n.toNat = 0 by omega]
    go_enter Try.func48, Try.ntmps48
    go_wp2_with fail
    go_loopw [7] (fun ii W => ii = .int .i64 0 ∧ W = w) (fun _ _ => 0)
    case atStart => exact ⟨rfl, rfl⟩
    case round =>
      obtain ⟨rfl, rfl⟩ := hrel
      go_wp2_with fail
      go_ret
      exact ⟨rfl, rfl⟩
/-- Bytes lie in memory, as they are read. -/
theorem row_m {T : TypeId} {B : Nat} {m : Mm} {w : World} (h : MAt T w B m) (ok : m.ok) (a n : Nat) (hn : a + n ≤ 16384) : Row8 w (some ⟨B, 64 + a, none⟩) n ((List.range n).map fun i => m.b (a + i)) := by
  refine ⟨by simp, fun z hz => ?_, .inr ⟨B, 64 + a, rfl, h.lt, fun i hi => ?_⟩⟩
  · simp only [List.mem_map] at hz
    obtain ⟨i, -, rfl⟩ := hz
    exact ok.b _
  · have := h.b (a + i) (by omega)
    rw [show 64 + a + i = 64 + (a + i) by omega, this]
    simp [List.getD_eq_getElem?_getD, hi]
theorem addN (b o j : Nat) : (⟨b, o, none⟩ : Addr).add j = ⟨b, o + j, none⟩ := by unfold Addr.add; split <;> simp_all
/-- Bytes copied into a block that is made last. -/
theorem copy_new (b off sl c : Nat) (zs : List Int) (Z : Array Value) (w : World) (hZ : Z.size = zs.length) (hs : zs.length ≤ sl) (hb : b < w.heap.size) (hc : ∀ i, i < zs.length → w.cell? ⟨b, off + i, none⟩ = some (.int .u8 (zs.getD i 0))) :
    (Builtin.copy_ #[74, 74] 3 #[.slice (some ⟨w.heap.size, 0, none⟩) zs.length zs.length, .slice (some ⟨b, off, none⟩) sl c]).run Try.prog (w.alloc (.cells Z 5)) = .ok (goInt zs.length) (w.alloc (.cells (zs.map (Value.int .u8)).toArray 5)) := by
  have hg := alloc_new w (.cells Z 5)
  have hl : (zs.map (Value.int .u8)).length = zs.length := by simp
  have := run_copy_row (P := Try.prog) (w.alloc (.cells Z 5)) 74 74 3 5 w.heap.size 0 zs.length zs.length ⟨b, off, none⟩ sl c Z 5 (zs.map (Value.int .u8)) (by kernel_rfl) (by kernel_rfl) hg (by rw [hl]; exact (Nat.min_eq_right hs).symm)
    (fun j v hj => by
      have hj2 : j < zs.length := by have := (List.getElem?_eq_some_iff.1 hj).1; simpa using this
      rw [addN, (Below.refl w.heap.size w |>.alloc (Nat.le_refl _) _).cell (show b < w.heap.size from hb), hc j hj2, ← hj]
      simp [List.getD_eq_getElem?_getD, hj2]) (by simp [hZ]) (fun v hv => by simp only [List.mem_map] at hv; obtain ⟨z, -, rfl⟩ := hv; rfl)
  rw [this, hl]
  have e : (Z.toList.take 0 ++ zs.map (Value.int .u8) ++ Z.toList.drop (0 + zs.length)).toArray = (zs.map (Value.int .u8)).toArray := by simp [← hZ]
  rw [e, World.setRow_alloc_new]
theorem row_new (w : World) (zs : List Int) (hz : ∀ z ∈ zs, 0 ≤ z ∧ z ≤ 255) (t : TypeId) : Row8 (w.alloc (.cells (zs.map (Value.int .u8)).toArray t)) (some ⟨w.heap.size, 0, none⟩) zs.length zs := by
  refine ⟨rfl, hz, .inr ⟨w.heap.size, 0, rfl, by simp, fun i hi => ?_⟩⟩
  rw [World.cell?_alloc_new]
  simp [List.getD_eq_getElem?_getD, hi]
theorem make_u8 (n : Nat) (h : n ≤ 16384) (W : World) : (Instr.makeSlice 74 (.int .i64 n) (.int .i64 n)).run Try.prog W = .ok (.slice (some ⟨W.heap.size, 0, none⟩) n n) (W.alloc (.cells (madeCells #[.int .u8 0] n) 5)) :=
  run_make_row' (P := Try.prog) 74 5 (.int .u8 0) 1 (by kernel_rfl) (by kernel_rfl) rfl .i64 .i64 n (by omega) (by omega) W
theorem made_size (n : Nat) : (madeCells #[Value.int .u8 0] n).size = n := by rw [size_madeCells]
set_option maxRecDepth 20000 in
theorem Peek_any {B : Nat} {m : Mm} {w : World} (h : PAt w B m) (ok : m.ok) (a : Int) (ha : 0 ≤ a ∧ a ≤ 4294967295) (n : Int) (hn : n ≤ 9223372036854775807) :
    Calls Try.prog 29 #[mp B, .int .u32 a, .int .i64 n] w fun e w' => (∃ x cap, e = .returned (.slice x (mappedL m a n.toNat) cap) ∧ Row8 w' x (mappedL m a n.toNat) (peekL m a n.toNat)) ∧ Below w.heap.size w w' := by
  have hm := mapped_any h ok a ha n hn
  have hr := @mapped_min m a n.toNat
  unfold peekL
  generalize mappedL m a n.toNat = k at *
  by_cases h0 : k = 0
  · subst h0
    clear hr
    go_enter Try.func29, Try.ntmps29
    go_wp2_with fail
    go_at_call 48
    refine hm.mono ?_
    rintro e w' ⟨rfl, rfl⟩
    go_wp2_with fail
    go_ret
    exact ⟨⟨none, 0, rfl, by simp [Row8]⟩, Below.refl _ _⟩
  · have he := mapped_end ok ha hr (by omega)
    obtain ⟨A, rfl⟩ := Int.eq_ofNat_of_zero_le ha.1
    rw [Int.toNat_natCast]
    have hrow := row_m h ok A k (by omega)
    clear hr
    have hcut := cutL .u32 B A (by omega)
    go_enter Try.func29, Try.ntmps29
    go_wp2_with fail
    go_at_call 48
    refine hm.mono ?_
    rintro e w' ⟨rfl, rfl⟩
    have hmk := make_u8 k (by omega) w
    have hcp := copy_new B (64 + A) (16384 - A) (16384 - A) ((List.range k).map fun i => m.b (A + i)) (madeCells #[.int .u8 0] k) w (by rw [made_size]; simp) (by simp; omega) h.lt (fun i hi => by
      obtain ⟨-, -, h3⟩ := hrow
      rcases h3 with h3 | ⟨b, off, he, -, hc⟩
      · rw [h3] at hi; simp at hi
      · cases he; exact hc i (by simpa using hi))
    have hrn := row_new w ((List.range k).map fun i => m.b (A + i)) hrow.2.1 5
    have hl : ((List.range k).map fun i => m.b (A + i)).length = k := by simp
    rw [hl] at hcp hrn
    generalize madeCells #[Value.int .u8 0] k = Z at *
    clear hl hrow
    generalize hzs : ((List.range k).map fun i => m.b (A + i)) = zs at hcp hrn
    have hzs' := hid hzs
    clear hzs
    have kx : Below w.heap.size w (w.alloc (.cells (zs.map (Value.int .u8)).toArray 5)) := (Below.refl _ _).alloc (Nat.le_refl _) _
    generalize w.alloc (.cells (zs.map (Value.int .u8)).toArray 5) = w1 at *
    go_wp2_with fail
    go_ret
    rw [hzs'.out]
    exact ⟨⟨_, _, rfl, hrn⟩, kx⟩
/-- A long load in a region that only reads, walked in the order of the text. -/
theorem quiet_load {P : Program} {ops : Array Oper} {C : World → Prop} {Q : Act → Prop} {o : Oper} {rest : List Oper} {a : Act} (hw : Region.wanted o (yielded ops a.tmps) = true) (ty : TypeId) (x : Operand) (ho : o.op = .load ty x)
    (b off : Nat) (hx : a.eval x = .pointer (some ⟨b, off, none⟩)) (cs : List Value) (d : TypeDesc) (hc : ∀ w, C w → w.rangeAt b off cs) (hu : P.underlying ty = some d) (hd : d.isRow = true) (hi : (P.info? ty).map (·.size) = some cs.length)
    (h : wpQuiet P ops C Q rest (a.put o.dst (.agg cs.toArray))) : wpQuiet P ops C Q (o :: rest) a := by
  unfold wpQuiet
  rw [if_pos hw]
  refine ⟨_, fun w hw' => ?_, h⟩
  unfold Oper.quietAt execOp
  simp only [ho, hx, Instr.loadAt, Instr.sureAddr, Sem.run_bind, Sem.run_pure, Result.andThen_ok, run_loadVar_mid w b off ty cs d (hc w hw') hu hd hi]
  exact ⟨rfl, rfl⟩
theorem items_int {P : Program} {e : TypeId} {k : IntKind} (hu : P.underlying e = some (.int k)) (he : P.plainKey e = true) (d : Nat) (xs : Array Value) (W : World) : ∀ is : List Nat, (∀ i ∈ is, ∃ z, xs[i]? = some (.int k z)) → (Op.eqItems (d + 1) e 1 xs xs is).run P W = .ok true W
  | [], _ => by simp [Op.eqItems]
  | i :: is, h => by
    obtain ⟨z, hz⟩ := h i (by simp)
    have ha : xs[i * 1]? = some (.int k z) := by rw [Nat.mul_one]; exact hz
    have hp := run_part_plain (P := P) W (e := e) he ha
    have ih := items_int hu he d xs W is (fun j hj => h j (by simp [hj]))
    simp only [Op.eqItems, Sem.run_bind, hp, Result.andThen_ok, run_equalIn_int W d e k k z z hu]
    simpa using ih
theorem eq_row {P : Program} {t e : TypeId} {n : Nat} {k : IntKind} (ht : P.underlying t = some (.array n e)) (hi : (P.info? e).isSome = true) (h1 : P.cellsOf e = 1) (hu : P.underlying e = some (.int k)) (he : P.plainKey e = true) (d : Nat) (xs : Array Value) (W : World)
    (h : ∀ i, i < n → ∃ z, xs[i]? = some (.int k z)) : (Op.equalIn (d + 2) t (.agg xs) (.agg xs)).run P W = .ok true W := by
  obtain ⟨i, hi⟩ := Option.isSome_iff_exists.1 hi
  rw [run_equalIn_array W (d + 1) _ _ ht hi, h1]
  exact items_int hu he d xs W _ (fun i hi => h i (by simpa using hi))
theorem part_row {P : Program} {t e : TypeId} {n sz : Nat} (ht : P.underlying t = some (.array n e)) (hs : ∀ W, (sizeOf t).run P W = .ok sz W) (cs : Array Value) (off : Nat) (W : World) : (part t cs off).run P W = .ok (.agg (cs.extract off (off + sz))) W := by
  simp [part, isAgg, run_underlying ht, hs]
theorem eq_mem {cs : Array Value} {m : Mm} (c : MC cs m) (W : World) : (Op.equalIn 10000 78 (.agg cs) (.agg cs)).run Try.prog W = .ok true W := by
  rw [run_equalIn_agg W 9999 _ _ _ (by kernel_rfl) (by kernel_rfl)]
  have hf : Try.prog.fieldsOf 78 = #[(Try.prog.fieldsOf 78)[0]!, (Try.prog.fieldsOf 78)[1]!] := by kernel_rfl
  have f0 : ((Try.prog.fieldsOf 78)[0]!).type = 61 ∧ ((Try.prog.fieldsOf 78)[0]!).offset = 0 ∧ (((Try.prog.fieldsOf 78)[0]!).name == "_") = false := by refine ⟨?_, ?_, ?_⟩ <;> kernel_rfl
  have f1 : ((Try.prog.fieldsOf 78)[1]!).type = 62 ∧ ((Try.prog.fieldsOf 78)[1]!).offset = 64 ∧ (((Try.prog.fieldsOf 78)[1]!).name == "_") = false := by refine ⟨?_, ?_, ?_⟩ <;> kernel_rfl
  rw [hf]
  generalize (Try.prog.fieldsOf 78)[0]! = F0 at *
  generalize (Try.prog.fieldsOf 78)[1]! = F1 at *
  obtain ⟨t0, o0, n0⟩ := f0
  obtain ⟨t1, o1, n1⟩ := f1
  have p0 := part_row Try.underlying61 (sz := 64) (fun W => by kernel_rfl) cs 0
  have p1 := part_row Try.underlying62 (sz := 16384) (fun W => by kernel_rfl) cs 64
  have e0 := eq_row Try.underlying61 (by kernel_rfl) (by kernel_rfl) Try.underlying3 (by kernel_rfl) 9997 (cs.extract 0 (0 + 64)) W (fun i hi => ⟨m.r i, by have := c.r i hi; rw [Array.getElem?_extract]; simp [hi, c.size, this]⟩)
  have e1 := eq_row Try.underlying62 (by kernel_rfl) (by kernel_rfl) Try.underlying5 (by kernel_rfl) 9997 (cs.extract 64 (64 + 16384)) W (fun i hi => ⟨m.b i, by have := c.b i hi; rw [Array.getElem?_extract]; simp [hi, c.size, this]⟩)
  have m0 : ¬ F0.name = "_" := by simpa using n0
  have m1 : ¬ F1.name = "_" := by simpa using n1
  simp [Op.eqFields, t0, o0, m0, t1, o1, m1, p0, p1, e0, e1]
end Go.Proofs.Ytmlaancmacipoaa
