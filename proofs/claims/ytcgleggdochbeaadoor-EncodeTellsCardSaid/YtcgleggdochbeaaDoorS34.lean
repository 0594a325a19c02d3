import Derived.Test.YtcgleggdochbeaaDoorS14
namespace Go.Proofs.YtcgleggdochbeaaDoor
open Go.RowKit
set_option maxRecDepth 100000
set_option maxHeartbeats 8000000
set_option linter.unusedVariables false
set_option linter.unusedSimpArgs false
set_option linter.unusedSectionVars false
theorem named_H {P : Program} {ops : Array Oper} {Q : Exit → Act → World → Prop} {S : World → Prop} {fuel : Nat} {listed : Array Bool} {a : Act} {w : World}
  (h : ∀ R : Nat → Array Bool → Act → World → Prop, R = wpAnyH P .any ops Q S → R fuel listed a w) : wpAnyH P .any ops Q S fuel listed a w := h _ rfl
theorem one_op (o : On) : (op6 o).all (·.oneCell') = true := by simp [Value.oneCell']
theorem run_load_mid {P : Program} {ev : Operand → Value} {o : Oper} {w : World} {ty : TypeId} {x : Operand} (ho : o.op = .load ty x) {b off : Nat} (hx : ev x = .pointer (some ⟨b, off, none⟩)) (cs : List Value) (d : TypeDesc)
  (hc : w.rangeAt b off cs) (hu : P.underlying ty = some d) (hd : d.isRow = true) (hi : (P.info? ty).map (·.size) = some cs.length) :
  (execOp ev o).run P w = .ok (.value (.agg cs.toArray)) w := by
 unfold execOp
 simp only [ho, hx, run_loadAt_mid w b off ty cs d hc hu hd hi, Sem.run_bind, Sem.run_pure, Result.andThen_ok]
theorem run_load_op {ev : Operand → Value} {o : Oper} {w : World} {x : Operand} (ho : o.op = .load 24 x) {b off : Nat} (hx : ev x = .pointer (some ⟨b, off, none⟩)) (A : On) (hc : w.rangeAt b off (op6 A).toList) :
  (execOp ev o).run Tryd.prog w = .ok (.value (opV A)) w := by
 have h := run_load_mid (P := Tryd.prog) ho hx (op6 A).toList _ hc Tryd.underlying24 rfl (by kernel_rfl)
 simpa using h
theorem rangeA {W : World} {N : Nat} {k : In} (h : Blk W N 26 (in16 k)) : W.rangeAt N 2 (op6 k.A).toList := by
 intro j u hj
 match j, hj with
 | 0, hj | 1, hj | 2, hj | 3, hj | 4, hj | 5, hj => simp at hj; subst hj; exact h.cell rfl
 | (j + 6), hj => simp at hj
theorem rangeB {W : World} {N : Nat} {k : In} (h : Blk W N 26 (in16 k)) : W.rangeAt N 8 (op6 k.B).toList := by
 intro j u hj
 match j, hj with
 | 0, hj | 1, hj | 2, hj | 3, hj | 4, hj | 5, hj => simp at hj; subst hj; exact h.cell rfl
 | (j + 6), hj => simp at hj
structure Fr (W : World) (N : Nat) (k : In) (pa pb : Nat) : Prop where
 i : Blk W N 26 (in16 k)
 a : Blk W pa 24 (op6 k.A)
 b : Blk W pb 24 (op6 k.B)
theorem Fr.below {W W' : World} {N pa pb : Nat} {k : In} (h : Fr W N k pa pb) (b : Below W.heap.size W W') : Fr W' N k pa pb := ⟨h.i.below b h.i.lt, h.a.below b h.a.lt, h.b.below b h.b.lt⟩
def AtJ (ops : Array Oper) : Prop := match Tryd.f74.body with | some (.seq _ (.seq (.region _ o _) _)) => ops = o | _ => False
abbrev tmJ (k : In) (N : Nat) : Act := { tmps := #[inV k, .pointer (some ⟨N, 0, none⟩), .slice none 0 0, undef, undef, undef, undef, undef, undef, undef, undef, undef, undef, undef, undef, undef, undef, undef, undef, undef, undef, undef, undef, undef, undef, undef, undef, undef, undef, undef, undef, undef, undef, undef, undef, undef, undef, undef, undef, undef, undef, undef, undef, undef, undef, undef, undef, undef, undef, undef, undef, undef, undef, undef, undef, undef, undef, undef, undef, undef, undef, undef, undef, undef, undef, undef, undef, undef, undef, undef, undef, undef, undef, undef, undef, undef, undef, undef, undef, undef, undef, undef, undef, undef, undef, undef, undef, undef, undef, undef, undef, undef, undef, undef, undef, undef, undef, undef, undef, undef, undef, undef, undef, undef, undef, undef, undef, undef, undef, undef, undef, undef, undef, undef, undef, undef, undef, undef, undef, undef, undef, undef, undef, undef, undef, undef, undef, undef, undef, undef, undef, undef, undef, undef, undef, undef, undef, undef, undef, undef, undef], defers := [] }
abbrev tmJm (k : In) (N : Nat) (pa pb : Nat) : Act := { tmps := #[inV k, .pointer (some ⟨N, 0, none⟩), .slice none 0 0, .pointer (some ⟨pa, 0, none⟩), .pointer (some ⟨pb, 0, none⟩), undef, undef, undef, undef, undef, .pointer (some ⟨N, 2, none⟩), opV k.A, .pointer (some ⟨N, 8, none⟩), opV k.B, .pointer (some ⟨N, 1, none⟩), .int .i64 k.c, .int .u8 (k.c % 256), undef, undef, undef, undef, undef, undef, undef, undef, undef, undef, undef, undef, undef, undef, undef, undef, undef, undef, undef, undef, undef, undef, undef, undef, undef, undef, undef, undef, undef, undef, undef, undef, undef, undef, undef, undef, undef, undef, undef, undef, undef, undef, undef, undef, undef, undef, undef, undef, undef, undef, undef, undef, undef, undef, undef, undef, undef, undef, undef, undef, undef, undef, undef, undef, undef, undef, undef, undef, undef, undef, undef, undef, undef, undef, undef, undef, undef, undef, undef, undef, undef, undef, undef, undef, undef, undef, undef, undef, undef, undef, undef, undef, undef, undef, undef, undef, undef, undef, undef, undef, undef, undef, undef, undef, undef, undef, undef, undef, undef, undef, undef, undef, undef, undef, undef, undef, undef, undef, undef, undef, undef, undef, undef, undef], defers := [] }
abbrev tmJe (k : In) (N : Nat) (pa pb : Nat) : Act := { tmps := #[inV k, .pointer (some ⟨N, 0, none⟩), .slice none 0 0, .pointer (some ⟨pa, 0, none⟩), .pointer (some ⟨pb, 0, none⟩), .int .u8 (k.c % 256), undef, undef, undef, undef, .pointer (some ⟨N, 2, none⟩), opV k.A, .pointer (some ⟨N, 8, none⟩), opV k.B, .pointer (some ⟨N, 1, none⟩), .int .i64 k.c, .int .u8 (k.c % 256), undef, undef, undef, undef, undef, undef, undef, undef, undef, undef, undef, undef, undef, undef, undef, undef, undef, undef, undef, undef, undef, undef, undef, undef, undef, undef, undef, undef, undef, undef, undef, undef, undef, undef, undef, undef, undef, undef, undef, undef, undef, undef, undef, undef, undef, undef, undef, undef, undef, undef, undef, undef, undef, undef, undef, undef, undef, undef, undef, undef, undef, undef, undef, undef, undef, undef, undef, undef, undef, undef, undef, undef, undef, undef, undef, undef, undef, undef, undef, undef, undef, undef, undef, undef, undef, undef, undef, undef, undef, undef, undef, undef, undef, undef, undef, undef, undef, undef, undef, undef, undef, undef, undef, undef, undef, undef, undef, undef, undef, undef, undef, undef, undef, undef, undef, undef, undef, undef, undef, undef, undef, undef, undef, undef], defers := [] }
theorem open_J {ops : Array Oper} (ho : AtJ ops) {Q : Exit → Act → World → Prop} (hp : ∀ x a d v w, Q (.panic x) (Act.put a (some d) v) w → Q (.panic x) a w) {k : In} {N : Nat} {W : World} (kI : Blk W N 26 (in16 k))
  (h : ∀ W' pa pb, Fr W' N k pa pb → Below W.heap.size W W' → W.heap.size ≤ pa → W.heap.size ≤ pb → Q .normal (tmJe k N pa pb) W') : (Code.region 1 ops true).wp Tryd.prog Q (tmJ k N) W := by
 unfold AtJ at ho
 dsimp only [Tryd.f74] at ho
 subst ho
 have hQ := Lib.hid h
 clear h
 have hd : Below W.heap.size W W.drew := (Below.refl _ _).drew
 have hNW := kI.lt
 refine wp_region_held_drew (S := fun W => Blk W N 26 (in16 k)) (by kernel_rfl) kI.drew (fun hH0 => ?_)
 have hsz : W.heap.size = W.drew.heap.size := rfl
 generalize W.drew = W0 at *
 refine wpAnyH_take (i := 0) (v := ?_) rfl (by kernel_rfl) (by kernel_rfl) (by kernel_rfl) (fun _ _ _ h => hp _ _ _ _ _ h) (Or.inl ⟨by kernel_rfl, ?_⟩) hH0 ?_
 rotate_left
 ·intro W hS
  go_simp
  try rfl
 simp only [pT]
 refine wpAnyH_take (i := 1) (v := opV k.A) rfl (by kernel_rfl) (by kernel_rfl) (by kernel_rfl) (fun _ _ _ h => hp _ _ _ _ _ h) (Or.inl ⟨by kernel_rfl, ?_⟩) hH0 ?_
 ·intro W hS
  exact run_load_op rfl rfl k.A (rangeA hS)
 simp only [pS]
 refine wpAnyH_take (i := 2) (v := ?_) rfl (by kernel_rfl) (by kernel_rfl) (by kernel_rfl) (fun _ _ _ h => hp _ _ _ _ _ h) (Or.inl ⟨by kernel_rfl, ?_⟩) hH0 ?_
 rotate_left
 ·intro W hS
  go_simp
  try rfl
 simp only [pT]
 refine wpAnyH_take (i := 3) (v := opV k.B) rfl (by kernel_rfl) (by kernel_rfl) (by kernel_rfl) (fun _ _ _ h => hp _ _ _ _ _ h) (Or.inl ⟨by kernel_rfl, ?_⟩) hH0 ?_
 ·intro W hS
  exact run_load_op rfl rfl k.B (rangeB hS)
 simp only [pS]
 refine wpAnyH_take (i := 4) (v := ?_) rfl (by kernel_rfl) (by kernel_rfl) (by kernel_rfl) (fun _ _ _ h => hp _ _ _ _ _ h) (Or.inl ⟨by kernel_rfl, ?_⟩) hH0 ?_
 rotate_left
 ·intro W hS
  go_simp
  try rfl
 simp only [pT]
 refine wpAnyH_take (i := 5) (v := ?_) rfl (by kernel_rfl) (by kernel_rfl) (by kernel_rfl) (fun _ _ _ h => hp _ _ _ _ _ h) (Or.inl ⟨by kernel_rfl, ?_⟩) hH0 ?_
 rotate_left
 ·intro W hS
  have c1 := hS.cell (i := 1) (v := .int .i64 k.c) rfl
  go_simp
  try rfl
 simp only [pT]
 refine wpAnyH_take (i := 6) (v := ?_) rfl (by kernel_rfl) (by kernel_rfl) (by kernel_rfl) (fun _ _ _ h => hp _ _ _ _ _ h) (Or.inl ⟨by kernel_rfl, ?_⟩) hH0 ?_
 rotate_left
 ·intro W hS
  go_simp
  try rfl
 simp only [pT]
 refine named_H (fun R hR => ?_)
 have H2 : ∀ (W1 : World) (pa pb : Nat), Blk W1 N 26 (in16 k) → Below W.heap.size W W1 → Blk W1 pa 24 z6 → Blk W1 pb 24 z6 → W.heap.size ≤ pa → W.heap.size ≤ pb → pa ≠ pb → R 3 #[true, true, true, true, true, true, true, true, true, false, false, false] (tmJm k N pa pb) W1 := by
  intro W1 pa pb kI kb ka kc na nb hne
  rw [hR]
  refine rd 9 (fun K hK => ?_)
  rw [if_pos (by kernel_rfl)]
  refine wp_store_row 24 _ _ rfl pa (op6 k.A) rfl rfl 24 z6 ka.h (szOp k.A) rfl (one_op k.A) ?_
  replace kc := kc.rowOther (M := pa) (op6 k.A) (Ne.symm hne)
  replace kI := kI.rowOther (M := pa) (op6 k.A) (Nat.ne_of_lt (Nat.lt_of_lt_of_le hNW na))
  replace kb := below_rowNew kb na (op6 k.A)
  have ka' := ka.row (op6 k.A)
  clear ka
  have ka := ka'
  clear ka'
  refine hK.out _ _ kI (fun _ => ?_)
  clear hK K
  try simp only [pT]
  refine rd 10 (fun K hK => ?_)
  rw [if_pos (by kernel_rfl)]
  refine wp_store_row 24 _ _ rfl pb (op6 k.B) rfl rfl 24 z6 kc.h (szOp k.B) rfl (one_op k.B) ?_
  replace ka := ka.rowOther (M := pb) (op6 k.B) hne
  replace kI := kI.rowOther (M := pb) (op6 k.B) (Nat.ne_of_lt (Nat.lt_of_lt_of_le hNW nb))
  replace kb := below_rowNew kb nb (op6 k.B)
  have kc' := kc.row (op6 k.B)
  clear kc
  have kc := kc'
  clear kc'
  refine hK.out _ _ kI (fun _ => ?_)
  clear hK K
  try simp only [pT]
  refine wpAnyH_take (i := 11) (v := ?_) rfl (by kernel_rfl) (by kernel_rfl) (by kernel_rfl) (fun _ _ _ h => hp _ _ _ _ _ h) (Or.inl ⟨by kernel_rfl, ?_⟩) kI ?_
  rotate_left
  ·intro W hS
   go_simp
   try rfl
  simp only [pT]
  refine wpAnyH_done (by kernel_rfl) ?_ _
  exact hQ.out _ _ _ ⟨kI, ka, kc⟩ kb na nb
 have kN := Blk.new W0 24 z6
 have l0 := hH0.lt
 have kI1 := hH0.alloc (.cells z6 24)
 have b1 := hd.alloc (Nat.le_of_eq hsz) (.cells z6 24)
 have kN2 := kN.alloc (.cells z6 24)
 have kM := Blk.new (W0.alloc (.cells z6 24)) 24 z6
 have kI2 := kI1.alloc (.cells z6 24)
 have b2 := b1.alloc (Nat.le_of_lt (by simp; omega)) (.cells z6 24)
 rw [World.size_alloc] at kM
 have z1 := H2 _ _ _ kI2 b2 kN2 kM (Nat.le_of_eq hsz) (by omega) (by omega)
 have z2 := H2 _ _ _ kI2 b2 kM kN2 (by omega) (Nat.le_of_eq hsz) (by omega)
 rw [hR] at z1 z2 ⊢
 clear H2
 refine wpAnyH_ready (rs := [7, 8]) (by kernel_rfl) (by simp) ?_
 refine AllReadyH.cons rfl (fun K hK => ?_) (AllReadyH.cons rfl (fun K hK => ?_) AllReadyH.nil)
 ·clear z2
  go_simp
  refine hK.out _ _ kI1 (fun _ => ?_)
  clear hK K
  try simp only [pT]
  refine rd 8 (fun K hK => ?_)
  go_simp
  exact hK.out _ _ kI2 (fun _ => z1)
 ·clear z1
  go_simp
  refine hK.out _ _ kI1 (fun _ => ?_)
  clear hK K
  try simp only [pT]
  refine rd 7 (fun K hK => ?_)
  go_simp
  exact hK.out _ _ kI2 (fun _ => z2)
def AtS (ops : Array Oper) : Prop := match Tryd.f54.body with | some (.seq _ (.seq (.region _ o _) _)) => ops = o | _ => False
abbrev tmS (k : In) (N : Nat) : Act := { tmps := #[inV k, .pointer (some ⟨N, 0, none⟩), .slice none 0 0, undef, undef, undef, undef, undef, undef, undef, undef, undef, undef, undef, undef, undef, undef, undef, undef, undef, undef, undef, undef, undef, undef, undef, undef, undef, undef, undef, undef, undef, undef, undef, undef, undef, undef, undef, undef, undef, undef, undef, undef, undef, undef, undef, undef, undef, undef, undef, undef, undef, undef, undef, undef, undef, undef, undef, undef, undef, undef, undef, undef, undef, undef, undef, undef, undef, undef, undef, undef, undef, undef, undef, undef, undef, undef, undef, undef, undef, undef, undef, undef, undef, undef, undef, undef, undef, undef, undef, undef, undef, undef, undef, undef, undef, undef, undef, undef, undef, undef, undef, undef, undef, undef, undef, undef, undef, undef, undef, undef, undef, undef, undef, undef, undef, undef, undef, undef, undef, undef, undef, undef, undef, undef, undef, undef, undef, undef, undef, undef, undef, undef, undef, undef, undef, undef, undef, undef, undef, undef, undef, undef, undef, undef, undef, undef, undef, undef, undef, undef, undef, undef, undef, undef, undef, undef, undef, undef, undef, undef, undef, undef, undef, undef, undef, undef, undef, undef, undef, undef, undef, undef, undef, undef, undef, undef, undef, undef, undef, undef], defers := [] }
abbrev tmSm (k : In) (N : Nat) (pa pb : Nat) : Act := { tmps := #[inV k, .pointer (some ⟨N, 0, none⟩), .slice none 0 0, .pointer (some ⟨pa, 0, none⟩), .pointer (some ⟨pb, 0, none⟩), undef, undef, .pointer (some ⟨N, 2, none⟩), opV k.A, .pointer (some ⟨N, 8, none⟩), opV k.B, undef, undef, undef, undef, undef, undef, undef, undef, undef, undef, undef, undef, undef, undef, undef, undef, undef, undef, undef, undef, undef, undef, undef, undef, undef, undef, undef, undef, undef, undef, undef, undef, undef, undef, undef, undef, undef, undef, undef, undef, undef, undef, undef, undef, undef, undef, undef, undef, undef, undef, undef, undef, undef, undef, undef, undef, undef, undef, undef, undef, undef, undef, undef, undef, undef, undef, undef, undef, undef, undef, undef, undef, undef, undef, undef, undef, undef, undef, undef, undef, undef, undef, undef, undef, undef, undef, undef, undef, undef, undef, undef, undef, undef, undef, undef, undef, undef, undef, undef, undef, undef, undef, undef, undef, undef, undef, undef, undef, undef, undef, undef, undef, undef, undef, undef, undef, undef, undef, undef, undef, undef, undef, undef, undef, undef, undef, undef, undef, undef, undef, undef, undef, undef, undef, undef, undef, undef, undef, undef, undef, undef, undef, undef, undef, undef, undef, undef, undef, undef, undef, undef, undef, undef, undef, undef, undef, undef, undef, undef, undef, undef, undef, undef, undef, undef, undef, undef, undef, undef, undef], defers := [] }
abbrev tmSe (k : In) (N : Nat) (pa pb : Nat) : Act := { tmps := #[inV k, .pointer (some ⟨N, 0, none⟩), .slice none 0 0, .pointer (some ⟨pa, 0, none⟩), .pointer (some ⟨pb, 0, none⟩), undef, undef, .pointer (some ⟨N, 2, none⟩), opV k.A, .pointer (some ⟨N, 8, none⟩), opV k.B, undef, undef, undef, undef, undef, undef, undef, undef, undef, undef, undef, undef, undef, undef, undef, undef, undef, undef, undef, undef, undef, undef, undef, undef, undef, undef, undef, undef, undef, undef, undef, undef, undef, undef, undef, undef, undef, undef, undef, undef, undef, undef, undef, undef, undef, undef, undef, undef, undef, undef, undef, undef, undef, undef, undef, undef, undef, undef, undef, undef, undef, undef, undef, undef, undef, undef, undef, undef, undef, undef, undef, undef, undef, undef, undef, undef, undef, undef, undef, undef, undef, undef, undef, undef, undef, undef, undef, undef, undef, undef, undef, undef, undef, undef, undef, undef, undef, undef, undef, undef, undef, undef, undef, undef, undef, undef, undef, undef, undef, undef, undef, undef, undef, undef, undef, undef, undef, undef, undef, undef, undef, undef, undef, undef, undef, undef, undef, undef, undef, undef, undef, undef, undef, undef, undef, undef, undef, undef, undef, undef, undef, undef, undef, undef, undef, undef, undef, undef, undef, undef, undef, undef, undef, undef, undef, undef, undef, undef, undef, undef, undef, undef, undef, undef, undef, undef, undef, undef, undef, undef], defers := [] }
theorem open_S {ops : Array Oper} (ho : AtS ops) {Q : Exit → Act → World → Prop} (hp : ∀ x a d v w, Q (.panic x) (Act.put a (some d) v) w → Q (.panic x) a w) {k : In} {N : Nat} {W : World} (kI : Blk W N 26 (in16 k))
  (h : ∀ W' pa pb, Fr W' N k pa pb → Below W.heap.size W W' → W.heap.size ≤ pa → W.heap.size ≤ pb → Q .normal (tmSe k N pa pb) W') : (Code.region 1 ops true).wp Tryd.prog Q (tmS k N) W := by
 unfold AtS at ho
 dsimp only [Tryd.f54] at ho
 subst ho
 have hQ := Lib.hid h
 clear h
 have hd : Below W.heap.size W W.drew := (Below.refl _ _).drew
 have hNW := kI.lt
 refine wp_region_held_drew (S := fun W => Blk W N 26 (in16 k)) (by kernel_rfl) kI.drew (fun hH0 => ?_)
 have hsz : W.heap.size = W.drew.heap.size := rfl
 generalize W.drew = W0 at *
 refine wpAnyH_take (i := 0) (v := ?_) rfl (by kernel_rfl) (by kernel_rfl) (by kernel_rfl) (fun _ _ _ h => hp _ _ _ _ _ h) (Or.inl ⟨by kernel_rfl, ?_⟩) hH0 ?_
 rotate_left
 ·intro W hS
  go_simp
  try rfl
 simp only [pT]
 refine wpAnyH_take (i := 1) (v := opV k.A) rfl (by kernel_rfl) (by kernel_rfl) (by kernel_rfl) (fun _ _ _ h => hp _ _ _ _ _ h) (Or.inl ⟨by kernel_rfl, ?_⟩) hH0 ?_
 ·intro W hS
  exact run_load_op rfl rfl k.A (rangeA hS)
 simp only [pS]
 refine wpAnyH_take (i := 2) (v := ?_) rfl (by kernel_rfl) (by kernel_rfl) (by kernel_rfl) (fun _ _ _ h => hp _ _ _ _ _ h) (Or.inl ⟨by kernel_rfl, ?_⟩) hH0 ?_
 rotate_left
 ·intro W hS
  go_simp
  try rfl
 simp only [pT]
 refine wpAnyH_take (i := 3) (v := opV k.B) rfl (by kernel_rfl) (by kernel_rfl) (by kernel_rfl) (fun _ _ _ h => hp _ _ _ _ _ h) (Or.inl ⟨by kernel_rfl, ?_⟩) hH0 ?_
 ·intro W hS
  exact run_load_op rfl rfl k.B (rangeB hS)
 simp only [pS]
 refine named_H (fun R hR => ?_)
 have H2 : ∀ (W1 : World) (pa pb : Nat), Blk W1 N 26 (in16 k) → Below W.heap.size W W1 → Blk W1 pa 24 z6 → Blk W1 pb 24 z6 → W.heap.size ≤ pa → W.heap.size ≤ pb → pa ≠ pb → R 2 #[true, true, true, true, true, true, false, false] (tmSm k N pa pb) W1 := by
  intro W1 pa pb kI kb ka kc na nb hne
  rw [hR]
  refine rd 6 (fun K hK => ?_)
  rw [if_pos (by kernel_rfl)]
  refine wp_store_row 24 _ _ rfl pa (op6 k.A) rfl rfl 24 z6 ka.h (szOp k.A) rfl (one_op k.A) ?_
  replace kc := kc.rowOther (M := pa) (op6 k.A) (Ne.symm hne)
  replace kI := kI.rowOther (M := pa) (op6 k.A) (Nat.ne_of_lt (Nat.lt_of_lt_of_le hNW na))
  replace kb := below_rowNew kb na (op6 k.A)
  have ka' := ka.row (op6 k.A)
  clear ka
  have ka := ka'
  clear ka'
  refine hK.out _ _ kI (fun _ => ?_)
  clear hK K
  try simp only [pT]
  refine rd 7 (fun K hK => ?_)
  rw [if_pos (by kernel_rfl)]
  refine wp_store_row 24 _ _ rfl pb (op6 k.B) rfl rfl 24 z6 kc.h (szOp k.B) rfl (one_op k.B) ?_
  replace ka := ka.rowOther (M := pb) (op6 k.B) hne
  replace kI := kI.rowOther (M := pb) (op6 k.B) (Nat.ne_of_lt (Nat.lt_of_lt_of_le hNW nb))
  replace kb := below_rowNew kb nb (op6 k.B)
  have kc' := kc.row (op6 k.B)
  clear kc
  have kc := kc'
  clear kc'
  refine hK.out _ _ kI (fun _ => ?_)
  clear hK K
  try simp only [pT]
  refine wpAnyH_done (by kernel_rfl) ?_ _
  exact hQ.out _ _ _ ⟨kI, ka, kc⟩ kb na nb
 have kN := Blk.new W0 24 z6
 have l0 := hH0.lt
 have kI1 := hH0.alloc (.cells z6 24)
 have b1 := hd.alloc (Nat.le_of_eq hsz) (.cells z6 24)
 have kN2 := kN.alloc (.cells z6 24)
 have kM := Blk.new (W0.alloc (.cells z6 24)) 24 z6
 have kI2 := kI1.alloc (.cells z6 24)
 have b2 := b1.alloc (Nat.le_of_lt (by simp; omega)) (.cells z6 24)
 rw [World.size_alloc] at kM
 have z1 := H2 _ _ _ kI2 b2 kN2 kM (Nat.le_of_eq hsz) (by omega) (by omega)
 have z2 := H2 _ _ _ kI2 b2 kM kN2 (by omega) (Nat.le_of_eq hsz) (by omega)
 rw [hR] at z1 z2 ⊢
 clear H2
 refine wpAnyH_ready (rs := [4, 5]) (by kernel_rfl) (by simp) ?_
 refine AllReadyH.cons rfl (fun K hK => ?_) (AllReadyH.cons rfl (fun K hK => ?_) AllReadyH.nil)
 ·clear z2
  go_simp
  refine hK.out _ _ kI1 (fun _ => ?_)
  clear hK K
  try simp only [pT]
  refine rd 5 (fun K hK => ?_)
  go_simp
  exact hK.out _ _ kI2 (fun _ => z1)
 ·clear z1
  go_simp
  refine hK.out _ _ kI1 (fun _ => ?_)
  clear hK K
  try simp only [pT]
  refine rd 4 (fun K hK => ?_)
  go_simp
  exact hK.out _ _ kI2 (fun _ => z2)
end Go.Proofs.YtcgleggdochbeaaDoor
