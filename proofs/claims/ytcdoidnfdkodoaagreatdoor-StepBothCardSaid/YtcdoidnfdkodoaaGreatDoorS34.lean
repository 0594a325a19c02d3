import Derived.Test.YtcdoidnfdkodoaaGreatDoorS33
import Derived.Laws.AppendOwnNone
namespace Go.Proofs.YtcdoidnfdkodoaaGreatDoor
open Go.RowKit
set_option linter.unusedVariables false
set_option linter.unusedSimpArgs false
set_option linter.unusedSectionVars false
structure Ba (w : World) (a : Option Addr) (len cap : Nat) (zs : List Int) : Prop where
  row : Row8 w a len zs
  lc : len ≤ cap
  cm : cap ≤ 9223372036854775807
  nn : a = none → cap = 0
theorem Ba.below {w w' : World} {a : Option Addr} {len cap : Nat} {zs : List Int} (h : Ba w a len cap zs) (b : Below w.heap.size w w') : Ba w' a len cap zs := ⟨h.row.below b, h.lc, h.cm, h.nn⟩
abbrev zRd : Array Value := #[.slice none 0 0, .int .i64 0, .int .u32 0, .int .u32 0]
theorem store_rd_as {ops : Array Oper} {rest : List Oper} {o : Oper} {a : Act} {w0 : World} {Q : Exit → Act → World → Prop} (hgd : o.guard = none) (x y : Operand) (ho : o.op = .store 202 x y)
    (s : Option Addr) (len cap : Nat) (hx : a.eval x = .pointer (some ⟨w0.heap.size, 0, none⟩)) (hy : a.eval y = rdV s len cap 0 0 0)
    (h : ∀ W, Blk W w0.heap.size 202 #[.slice s len cap, .int .i64 0, .int .u32 0, .int .u32 0] → Below w0.heap.size w0 W → wpList Tryz.prog ops Q rest (a.put o.dst undef) W) :
    wpList Tryz.prog ops Q (o :: rest) a (w0.alloc (.cells zRd 202)) := by
  refine wpList_store_row hgd 202 x y ho w0.heap.size #[.slice s len cap, .int .i64 0, .int .u32 0, .int .u32 0] hx hy 202 zRd (alloc_new _ _) (szRd s len cap 0 0 0) rfl (by simp [Value.oneCell']) ?_
  exact h _ ((Blk.new w0 202 zRd).row _) (below_rowNew ((Below.refl _ _).alloc (Nat.le_refl _) _) (Nat.le_refl _) _)
theorem RG.start (w : World) : RG w ((w.alloc (.cells z16 33)).alloc (.cells #[.int .i64 0] 57)) z16 0 := by
  have kK := (Blk.new w 33 z16).alloc (.cells #[.int .i64 0] 57)
  have kL := Blk.new (w.alloc (.cells z16 33)) 57 #[.int .i64 0]
  rw [show (w.alloc (.cells z16 33)).heap.size = w.heap.size + 1 by simp] at kL
  exact ⟨kK, z16_size, kL, ((Below.refl _ _).alloc (Nat.le_refl _) _).alloc (by simp) _⟩
theorem Row8.n {w : World} {a : Option Addr} {len : Nat} {zs : List Int} (h : Row8 w a len zs) : RowN w w.heap.size a len zs := h
section
variable {w : World} {a : Option Addr} {len cap : Nat} {zs : List Int}
set_option maxRecDepth 20000 in
theorem read_any (A : Ba w a len cap zs) (tabs : Tabs w) :
    Calls Tryz.prog 139 #[.slice a len cap] w fun e w' => e = .returned (.tuple #[inV (decI zs), .int .i64 (decE zs)]) ∧ Below w.heap.size w w' := by
  have hmf : ∀ (fn : Fn) (first cap : Array Value) (w : World), (Instr.makeFunc fn first cap).run Tryz.prog w = .ok (.func fn first cap) w := fun _ _ _ _ => rfl
  have G := RG.start w
  have hI := Lib.hid (fun W B (G : Below w.heap.size w W) (R : Rd W w.heap.size B a len cap zs 0 0 0) => instruction_any tabs G R)
  have hrow := A.row
  have hlc := A.lc
  have hcm := A.cm
  unfold decI decE
  have H1 := G.kK.lt
  have H2 := G.kL.lt
  cases hd : decM zs with
  | error x =>
    rw [hd] at hI
    simp only [endM] at hI
    go_enter_defers Tryz.func139, Tryz.ntmps139
    go_upto_region 2 with fail
    generalize (w.alloc (.cells z16 33)).alloc (.cells #[.int .i64 0] 57) = w1 at *
    go_upto_region 3 with ((with_reducible refine store_rd_as rfl _ _ rfl a len cap rfl rfl ?_); intro W2 kR b2)
    have G2 := G.below b2
    have hB : w.heap.size + 1 < w1.heap.size := H2
    have R2 : Rd W2 w.heap.size w1.heap.size a len cap zs 0 0 0 := ⟨kR, hrow.n.but (But.of G2.k []) (Nat.le_refl _) (by simp), by omega, hlc, hcm, Nat.zero_le _, by decide, by decide⟩
    go_wp2_with ((with_reducible refine (hI.out _ _ G2.k R2).mono ?_); rintro e W3 ⟨rfl, b3⟩)
    have G3 := G2.but b3 (by simpa using hB)
    exact read_caught G3 rfl rfl (fun W' k => ⟨rfl, k⟩)
  | ok i =>
    rw [hd] at hI
    simp only [endM] at hI
    go_enter_defers Tryz.func139, Tryz.ntmps139
    go_upto_region 2 with fail
    generalize (w.alloc (.cells z16 33)).alloc (.cells #[.int .i64 0] 57) = w1 at *
    go_upto_region 3 with ((with_reducible refine store_rd_as rfl _ _ rfl a len cap rfl rfl ?_); intro W2 kR b2)
    have G2 := G.below b2
    have hB : w.heap.size + 1 < w1.heap.size := H2
    have R2 : Rd W2 w.heap.size w1.heap.size a len cap zs 0 0 0 := ⟨kR, hrow.n.but (But.of G2.k []) (Nat.le_refl _) (by simp), by omega, hlc, hcm, Nat.zero_le _, by decide, by decide⟩
    go_wp2_with (first | ((with_reducible refine (hI.out _ _ G2.k R2).mono ?_); rintro e W3 ⟨rfl, b3⟩; have G3 := G2.but b3 (by simpa using hB)) | ((with_reducible refine store_inR rfl _ _ rfl w.heap.size (in16 i) z16 rfl rfl G3.kK (in16_size _) z16_size (in16_one _) ?_); intro W4 k4 b4 s4; have kL4 := G3.kL.but b4 G3.kL.lt (by simp); have cL := kL4.cell (i := 0) (v := .int .i64 0) rfl; have fL := kL4.fr 0))
    have G4 : RG w (W4.setCell ⟨w.heap.size + 1, 0, none⟩ (.int .i64 0)) (in16 i) 0 :=
      ⟨k4.other 0 _ (by omega), in16_size i, kL4.set 0 (.int .i64 0), (G3.k.trans (b4.below G3.k.size (by simp))).trans ((But.cell1 W4 (w.heap.size + 1) 0 (.int .i64 0)).below (by rw [s4]; exact G3.k.size) (by simp))⟩
    exact read_left G4 rfl rfl (fun W' k => ⟨rfl, k⟩)
structure DG (w W : World) (cs : Array Value) (D : Nat) (i : In) : Prop where
  z : Blk W w.heap.size 33 cs
  hz : cs.size = 16
  d : Blk W D 33 (in16 i)
  hD : w.heap.size < D
  k : Below w.heap.size w W
theorem results_ctt {P : Program} {fn : Func} {p q r : Tmp} {ty : TypeId} (h : fn.results = #[.cell p ty, .tmp q, .tmp r]) (tmps : Array Value) (w : World) (g : Nat) (t : TypeId) (cs : Array Value) (fr : Nat × Nat) (d : TypeDesc) (v u : Value)
    (hp : tmps.getD p undef = .pointer (some ⟨g, 0, none⟩)) (hv : tmps.getD q undef = v) (hu2 : tmps.getD r undef = u) (hg : w.heap[g]? = some (.cells cs t fr))
    (hu : P.underlying ty = some d) (hd : (match d with | .struct _ | .array _ _ => true | _ => false) = true) (hi : (P.info? ty).map (·.size) = some cs.size) :
    (results fn tmps).run P w = .ok (.tuple #[.agg cs, v, u]) w := by
  have hp' : tmps[p]?.getD undef = .pointer (some ⟨g, 0, none⟩) := by simpa using hp
  have hv' : tmps[q]?.getD undef = v := by simpa using hv
  have hu' : tmps[r]?.getD undef = u := by simpa using hu2
  simp [results, h, hp', hv', hu', asAddr, run_loadVar_row w g t ty cs fr d hg hu hd hi]
set_option maxRecDepth 20000 in
theorem Decode_any (A : Ba w a len cap zs) (tabs : Tabs w) :
    Calls Tryz.prog 94 #[.slice a len cap] w fun e w' => e = .returned (.tuple #[inV (decI zs), .int .i64 (decI zs).len, .int .i64 (decE zs)]) ∧ Below w.heap.size w w' := by
  have k1 := (Below.refl w.heap.size w).alloc (Nat.le_refl _) (.cells z16 33)
  have hR := Lib.hid (read_any (A.below k1) (tabs.below k1))
  have kZ := Blk.new w 33 z16
  have H1 : w.heap.size < (w.alloc (.cells z16 33)).heap.size := by simp
  generalize decI zs = i at *
  generalize decE zs = x at *
  go_enter Tryz.func94, Tryz.ntmps94
  go_upto_region 1 with fail
  generalize w.alloc (.cells z16 33) = w1 at *
  go_upto_region 2 with (first | ((with_reducible refine hR.out.mono ?_); rintro e W2 ⟨rfl, b2⟩) | ((with_reducible refine store_in_as rfl _ _ rfl (in16 i) (in16_size _) (in16_one _) rfl rfl ?_); intro W3 kI b3))
  have kZ2 := kZ.below b2 kZ.lt
  have G : DG w W3 z16 W2.heap.size i := ⟨kZ2.below b3 kZ2.lt, z16_size, kI, kZ2.lt, (k1.trans (b2.mono k1.size)).trans (b3.mono (Nat.le_trans k1.size b2.size))⟩
  generalize W2.heap.size = D at *
  refine wp_region_held_drew (S := fun W => ∃ cs, DG w W cs D i) (by kernel_rfl) ⟨z16, ⟨G.z.drew, G.hz, G.d.drew, G.hD, ⟨G.k.os, G.k.tape, G.k.output, G.k.size, G.k.block⟩⟩⟩ (fun hH0 => ?_)
  refine wpAnyH_take (i := 0) (v := inV i) rfl (by kernel_rfl) (by kernel_rfl) (by kernel_rfl) (fun _ _ _ h => h) (Or.inl ⟨by kernel_rfl, ?_⟩) hH0 ?_
  · intro W hS
    obtain ⟨cs, hS⟩ := hS
    exact run_load_row (by rfl) (by rfl) 33 _ (0, 0) _ hS.d.h Tryz.underlying33 rfl (szIn i)
  try simp only [Act.put, List.setIfInBounds_toArray, List.set_cons_zero, List.set_cons_succ, List.getElem_toArray, List.getElem_cons_succ, List.getElem_cons_zero]
  refine wpAnyH_take (i := 1) (v := .pointer (some ⟨D, 15, none⟩)) rfl (by kernel_rfl) (by kernel_rfl) (by kernel_rfl) (fun _ _ _ h => h) (Or.inl ⟨by kernel_rfl, ?_⟩) hH0 ?_
  · intro W hS
    go_simp
  try simp only [Act.put, List.setIfInBounds_toArray, List.set_cons_zero, List.set_cons_succ, List.getElem_toArray, List.getElem_cons_succ, List.getElem_cons_zero]
  refine wpAnyH_take (i := 2) (v := .int .i64 i.len) rfl (by kernel_rfl) (by kernel_rfl) (by kernel_rfl) (fun _ _ _ h => h) (Or.inl ⟨by kernel_rfl, ?_⟩) hH0 ?_
  · intro W hS
    obtain ⟨cs, hS⟩ := hS
    have d15 := hS.d.cell (i := 15) (v := .int .i64 i.len) rfl
    go_simp
  try simp only [Act.put, List.setIfInBounds_toArray, List.set_cons_zero, List.set_cons_succ, List.getElem_toArray, List.getElem_cons_succ, List.getElem_cons_zero]
  refine wpAnyH_take (i := 3) (v := .int .i64 x) rfl (by kernel_rfl) (by kernel_rfl) (by kernel_rfl) (fun _ _ _ h => h) (Or.inl ⟨by kernel_rfl, ?_⟩) hH0 ?_
  · intro W hS
    go_simp
  try simp only [Act.put, List.setIfInBounds_toArray, List.set_cons_zero, List.set_cons_succ, List.getElem_toArray, List.getElem_cons_succ, List.getElem_cons_zero]
  refine wpAnyH_ready (rs := [4]) (by kernel_rfl) (by simp) ?_
  refine AllReadyH.cons rfl (fun K hK => ?_) AllReadyH.nil
  rw [if_pos (by kernel_rfl)]
  obtain ⟨cs, G0⟩ := hH0
  have hD := G0.hD
  refine wp_store_row 33 _ _ rfl w.heap.size (in16 i) rfl rfl 33 cs G0.z.h (szIn i) G0.hz (in16_one i) ?_
  have G1 : DG w _ (in16 i) D i := ⟨G0.z.row (in16 i), in16_size i, G0.d.rowOther (in16 i) (by omega), G0.hD, below_rowNew G0.k (Nat.le_refl _) (in16 i)⟩
  refine hK.out _ _ ⟨_, G1⟩ (fun _ => ?_)
  clear hK K
  try simp only [Act.put, List.setIfInBounds_toArray, List.set_cons_zero, List.set_cons_succ, List.getElem_toArray, List.getElem_cons_succ, List.getElem_cons_zero]
  refine wpAnyH_take (i := 5) (v := .int .i64 i.len) rfl (by kernel_rfl) (by kernel_rfl) (by kernel_rfl) (fun _ _ _ h => h) (Or.inl ⟨by kernel_rfl, ?_⟩) ⟨_, G1⟩ ?_
  · intro W hS
    go_simp
  try simp only [Act.put, List.setIfInBounds_toArray, List.set_cons_zero, List.set_cons_succ, List.getElem_toArray, List.getElem_cons_succ, List.getElem_cons_zero]
  refine wpAnyH_take (i := 6) (v := .int .i64 x) rfl (by kernel_rfl) (by kernel_rfl) (by kernel_rfl) (fun _ _ _ h => h) (Or.inl ⟨by kernel_rfl, ?_⟩) ⟨_, G1⟩ ?_
  · intro W hS
    go_simp
  try simp only [Act.put, List.setIfInBounds_toArray, List.set_cons_zero, List.set_cons_succ, List.getElem_toArray, List.getElem_cons_succ, List.getElem_cons_zero]
  refine wpAnyH_done (by kernel_rfl) ?_ _
  go_wp2_with fail
  exact bodyPost_ret (v := .tuple #[inV i, .int .i64 i.len, .int .i64 x]) (results_ctt rfl _ _ w.heap.size 33 (in16 i) (0, 0) _ _ _ rfl rfl rfl G1.z.h Tryz.underlying33 rfl (szIn i)) rfl ⟨rfl, G1.k⟩
end
end Go.Proofs.YtcdoidnfdkodoaaGreatDoor
namespace Go.Proofs.YtcdoidnfdkodoaaGreatDoor
open Go.RowKit
set_option linter.unusedVariables false
set_option linter.unusedSimpArgs false
set_option linter.unusedSectionVars false
structure Own (w : World) (N : Nat) (v : Value) (zs : List Int) : Prop where
  bd : ∀ z ∈ zs, 0 ≤ z ∧ z ≤ 255
  row : w.ownsRow N 5 1 v zs.length (zs.map (Value.int .u8))
theorem Own.ba {w : World} {N : Nat} {v : Value} {zs : List Int} (h : Own w N v zs) : ∃ a cap, v = .slice a zs.length cap ∧ Ba w a zs.length cap zs := by
  obtain ⟨hb, -, h | ⟨g, cap, cur, rfl, hN, hg, hn, hm, hs, ht⟩⟩ := h
  · obtain ⟨rfl, h0⟩ := h
    obtain rfl := List.eq_nil_of_length_eq_zero h0
    exact ⟨none, 0, rfl, ⟨⟨rfl, by simp, .inl rfl⟩, Nat.le_refl _, by decide, fun _ => rfl⟩⟩
  · refine ⟨_, cap, rfl, ⟨⟨rfl, hb, .inr ⟨g, 0, rfl, (Array.getElem?_eq_some_iff.1 hg).1, fun i hi => ?_⟩⟩, hn, by simp only [maxLen] at hm; omega, fun e => by cases e⟩⟩
    have e : (zs.map (Value.int .u8))[i]? = some (.int .u8 (zs.getD i 0)) := by simp [List.getD_eq_getElem?_getD, hi]
    rw [← ht, List.getElem?_take, if_pos (by omega)] at e
    rw [Nat.zero_add]
    simp only [World.cell?, hg]
    simpa using e
theorem Own.below {w w' : World} {N : Nat} {v : Value} {zs : List Int} (h : Own w N v zs) (b : Below w.heap.size w w') : Own w' N v zs := by
  obtain ⟨hb, hl, h | ⟨g, cap, cur, rfl, hN, hg, rest⟩⟩ := h
  · exact ⟨hb, hl, .inl h⟩
  · exact ⟨hb, hl, .inr ⟨g, cap, cur, rfl, hN, (b.block g (Array.getElem?_eq_some_iff.1 hg).1).trans hg, rest⟩⟩
theorem Own.drew {w : World} {N : Nat} {v : Value} {zs : List Int} (h : Own w N v zs) : Own w.drew N v zs := ⟨h.bd, h.row⟩
theorem Own.new (w : World) (N : Nat) (hN : N ≤ w.heap.size) (zs : List Int) (hz : ∀ z ∈ zs, 0 ≤ z ∧ z ≤ 255) (hl : zs.length ≤ 100) {cells : Array Value} (hc : cells = (zs.map (Value.int .u8)).toArray) :
    Own (w.alloc (.cells cells 5)) N (.slice (some ⟨w.heap.size, 0, none⟩) zs.length zs.length) zs := by
  subst hc
  exact ⟨hz, by simp, .inr ⟨w.heap.size, zs.length, _, rfl, hN, alloc_new _ _, Nat.le_refl _, by simp only [maxLen]; omega, by simp, by simp only [Nat.mul_one]; exact List.take_of_length_le (by simp)⟩⟩
theorem grown_below {w w' : World} {N : Nat} {row : Option Nat} (h : w.grownBy w' row) (hN : N ≤ w.heap.size) (hr : ∀ k, row = some k → N ≤ k) : Below N w w' :=
  ⟨h.os, h.tape, h.output, h.size, fun k hk => h.block k (by omega) (fun e => by have := hr k e.symm; omega)⟩
theorem info_u8m : (Tryz.prog.info? 5).map (fun i => (i.zero, i.size, i.bytes)) = some (some (.int .u8 0), 1, 1) := by kernel_rfl
theorem info_u8 : ∃ i, Tryz.prog.info? 5 = some i ∧ i.zero = some (.int .u8 0) ∧ i.size = 1 ∧ i.bytes = 1 := by
  have h := info_u8m
  cases hi : Tryz.prog.info? 5 with
  | none => rw [hi] at h; cases h
  | some i =>
    rw [hi] at h
    simp only [Option.map_some, Option.some.injEq, Prod.mk.injEq] at h
    exact ⟨i, rfl, h.1, h.2.1, h.2.2⟩
theorem append_bytes {ops : Array Oper} {rest : List Oper} {o : Oper} {a : Act} {w : World} {Q : Exit → Act → World → Prop} (hgd : o.guard = none) (s x : Operand)
    (ho : o.op = .call { callee := .builtin .append, args := #[s, x], argTypes := #[66, 66] })
    (N : Nat) (v : Value) (xs ys : List Int) (hs : a.eval s = v) (h : Own w N v xs) (hN : N ≤ w.heap.size)
    (b : Option Addr) (m c : Nat) (hx : a.eval x = .slice b m c) (B : Ba w b m c ys) (hl : xs.length + ys.length ≤ 100)
    (k : ∀ v' w', Own w' N v' (xs ++ ys) → Below N w w' → wpList Tryz.prog ops Q rest (a.put o.dst v') w') : wpList Tryz.prog ops Q (o :: rest) a w := by
  obtain ⟨i, hi, hz, hsz, hby⟩ := info_u8
  have hrow : ∀ k, v.ownBlock = some k → N ≤ k := fun k hk => (h.row.lt k hk).1
  obtain ⟨hl2, hb2, hr⟩ := B.row
  have fin : ∀ v' w', w'.ownsRow N 5 1 v' (xs.length + ys.length) (xs.map (Value.int .u8) ++ ys.map (Value.int .u8)) → w.grownBy w' v.ownBlock → wpList Tryz.prog ops Q rest (a.put o.dst v') w' := by
    intro v' w' h1 h2
    refine k v' w' ⟨fun z hz => ?_, ?_⟩ (grown_below h2 hN hrow)
    · rcases List.mem_append.1 hz with h3 | h3
      · exact h.bd z h3
      · exact hb2 z h3
    · rw [List.length_append, List.map_append]; exact h1
  have some_case : ∀ g off, b = some ⟨g, off, none⟩ → (∀ j, j < m → w.cell? ⟨g, off + j, none⟩ = some (.int .u8 (ys.getD j 0))) → wpList Tryz.prog ops Q (o :: rest) a w := by
    rintro g off rfl hc
    refine wpList_append_own w hgd s x 66 ho N 5 i (.int .u8 0) 1 1 Tryz.underlying66 hi hz hsz hby rfl (by decide) v xs.length (xs.map (Value.int .u8)) hs h.row ⟨g, off, none⟩ m c (ys.map (Value.int .u8)) hx (by simp [hl2]) (fun j u hj => ?_) (by simp [Value.oneCell']) (by simp only [maxLen]; omega) (by omega) hN (fun v' w' h1 h2 _ => fin v' w' (by rw [hl2]; exact h1) h2)
    have hj2 : j < ys.length := by
      have := (List.getElem?_eq_some_iff.1 hj).1
      simpa using this
    have e : (⟨g, off, none⟩ : Addr).add j = ⟨g, off + j, none⟩ := by unfold Addr.add; split <;> simp_all
    rw [e, hc j (by omega), ← hj]
    simp [List.getD_eq_getElem?_getD, hj2]
  rcases hr with rfl | ⟨g, off, rfl, -, hc⟩
  · have h0 : m = 0 := by simpa using hl2.symm
    subst h0
    cases b with
    | none =>
      obtain rfl := B.nn rfl
      exact wpList_append_own_none hgd s x 66 ho N 5 i 1 Tryz.underlying66 hi v xs.length _ hs h.row hx (k v w (by rw [List.append_nil]; exact h) (Below.refl _ _))
    | some ad =>
      exact wpList_append_own w hgd s x 66 ho N 5 i (.int .u8 0) 1 1 Tryz.underlying66 hi hz hsz hby rfl (by decide) v xs.length (xs.map (Value.int .u8)) hs h.row ad 0 c [] hx (by simp) (by simp) (by simp) (by simp only [maxLen]; omega) (by omega) hN (fun v' w' h1 h2 _ => fin v' w' (by simpa using h1) h2)
  · exact some_case g off rfl hc
end Go.Proofs.YtcdoidnfdkodoaaGreatDoor
