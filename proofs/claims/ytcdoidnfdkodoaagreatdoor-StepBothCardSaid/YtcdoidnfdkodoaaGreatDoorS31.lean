import Derived.Test.YtcdoidnfdkodoaaGreatDoorS30
import Derived.Test.YtcdoidnfdkodoaaGreatDoorS20
namespace Go.Proofs.YtcdoidnfdkodoaaGreatDoor
open Go.RowKit
set_option linter.unusedVariables false
set_option linter.unusedSimpArgs false
set_option linter.unusedSectionVars false
structure FF (w W : World) (N B : Nat) (a : Option Addr) (len cap : Nat) (zs : List Int) (p : Nat) (c : Int) (x : Rw) (cs : Array Value) : Prop where
  r : Rd W N B a len cap zs p c 0
  e : Blk W w.heap.size 226 (rw5 x)
  z : Blk W (w.heap.size + 1) 33 cs
  k : Below w.heap.size w W
  hB : B < w.heap.size
section
variable {w W W' : World} {N B : Nat} {a : Option Addr} {len cap : Nat} {zs : List Int} {p : Nat} {c m : Int} {x : Rw} {cs : Array Value}
theorem FF.start (R : Rd w N B a len cap zs p c 0) (x : Rw) : FF w ((w.alloc (.cells (rw5 x) 226)).alloc (.cells z16 33)) N B a len cap zs p c x z16 := by
  have kE := (Blk.new w 226 (rw5 x)).alloc (.cells z16 33)
  have kZ := Blk.new (w.alloc (.cells (rw5 x) 226)) 33 z16
  rw [show (w.alloc (.cells (rw5 x) 226)).heap.size = w.heap.size + 1 by simp] at kZ
  exact ⟨(R.alloc _).alloc _, kE, kZ, ((Below.refl _ _).alloc (Nat.le_refl _) _).alloc (by simp) _, R.lt⟩
theorem FF.lt (h : FF w W N B a len cap zs p c x cs) : w.heap.size + 1 < W.heap.size := h.z.lt
theorem FF.drew (h : FF w W N B a len cap zs p c x cs) : FF w W.drew N B a len cap zs p c x cs := ⟨h.r.drew, h.e.drew, h.z.drew, ⟨h.k.os, h.k.tape, h.k.output, h.k.size, h.k.block⟩, h.hB⟩
theorem FF.but (h : FF w W N B a len cap zs p c x cs) {S : List Nat} (k : But S W.heap.size W W') (hS : ∀ x, x ∈ S → w.heap.size + 1 < x) : FF w W' N B a len cap zs p c x cs := by
  have hl := h.lt
  have hnb := h.r.nb
  have hB := h.hB
  exact ⟨h.r.but k h.r.lt (fun hm => by have := hS _ hm; omega) (fun x hx => by have := hS _ hx; omega), h.e.but k (by omega) (fun hm => by have := hS _ hm; omega), h.z.but k (by omega) (fun hm => by have := hS _ hm; omega), h.k.trans (k.below h.k.size (fun x hx => by have := hS _ hx; omega)), hB⟩
theorem FF.below (h : FF w W N B a len cap zs p c x cs) (k : Below W.heap.size W W') : FF w W' N B a len cap zs p c x cs := h.but (But.of k []) (by simp)
theorem FF.done (h : FF w W N B a len cap zs p c x cs) {cs' : Array Value} (z : Blk W' (w.heap.size + 1) 33 cs') (k : But [w.heap.size + 1] W.heap.size W W') : FF w W' N B a len cap zs p c x cs' := by
  have hl := h.lt
  have hnb := h.r.nb
  have hB := h.hB
  exact ⟨h.r.but k h.r.lt (by simp; omega) (by simp; omega), h.e.but k (by omega) (by simp), z, h.k.trans (k.below h.k.size (by simp)), hB⟩
theorem Rd.v (R : Rd w N B a len cap zs p c m) : Rv w N a len cap zs p c m := ⟨R.row, by have := R.nb; have := R.lt; omega, R.lc, R.cm, R.pl, R.mb, R.cb⟩
theorem by_ok (V : Rv w N a len cap zs p c 0) (tabs : Tabs w) (r : Rw) (ok : r.ok) {i : In} (h : byM zs c p r = .ok i) :
    Calls Tryz.prog 248 #[rdV a len cap p c 0, rwV r] w fun e w' => e = .returned (inV i) ∧ Below w.heap.size w w' := by
  have := by_any V tabs r ok
  rw [h] at this
  exact this
theorem by_err (V : Rv w N a len cap zs p c 0) (tabs : Tabs w) (r : Rw) (ok : r.ok) {n : Int} (h : byM zs c p r = .error n) :
    Calls Tryz.prog 248 #[rdV a len cap p c 0, rwV r] w fun e w' => e = .panicked (errP n) ∧ Below w.heap.size w w' := by
  have := by_any V tabs r ok
  rw [h] at this
  exact this
theorem szRd (a : Option Addr) (len cap p : Nat) (c m : Int) : (Tryz.prog.info? 202).map (·.size) = some (#[Value.slice a len cap, .int .i64 p, .int .u32 c, .int .u32 m] : Array Value).size := by kernel_rfl
theorem But.row1 (W : World) (K : Nat) (cs : Array Value) : But [K] W.heap.size W (W.setRow K cs) := (But.refl _ _ _).setRow (by simp) cs
theorem results_ct {P : Program} {fn : Func} {p q : Tmp} {ty : TypeId} (h : fn.results = #[.cell p ty, .tmp q]) (tmps : Array Value) (w : World) (g : Nat) (t : TypeId) (cs : Array Value) (fr : Nat × Nat) (d : TypeDesc) (v : Value)
    (hp : tmps.getD p undef = .pointer (some ⟨g, 0, none⟩)) (hv : tmps.getD q undef = v) (hg : w.heap[g]? = some (.cells cs t fr))
    (hu : P.underlying ty = some d) (hd : (match d with | .struct _ | .array _ _ => true | _ => false) = true) (hi : (P.info? ty).map (·.size) = some cs.size) :
    (results fn tmps).run P w = .ok (.tuple #[.agg cs, v]) w := by
  have hp' : tmps[p]?.getD undef = .pointer (some ⟨g, 0, none⟩) := by simpa using hp
  have hv' : tmps[q]?.getD undef = v := by simpa using hv
  simp [results, h, hp', hv', asAddr, run_loadVar_row w g t ty cs fr d hg hu hd hi]
set_option maxRecDepth 8000 in
theorem fitting_not (R : Rd w N B a len cap zs p c 0) (r : Rw) (h : fitB c r = false) :
    Calls Tryz.prog 224 #[rp B, rwV r] w fun e w' => e = .returned (.tuple #[inV inZ, .bool false]) ∧ Below w.heap.size w w' := by
  have F := FF.start R r
  have hf : (bits .and .u32 c r.g != r.c) = true := by unfold fitB at h; simp [bne, h]
  have c2 := F.r.c2
  have d0 := F.e.cell (i := 0) (v := .int .u32 r.g) rfl
  have d1 := F.e.cell (i := 1) (v := .int .u32 r.c) rfl
  clear h
  go_enter Tryz.func224, Tryz.ntmps224
  go_upto_region 1 with fail
  generalize (w.alloc (.cells (rw5 r) 226)).alloc (.cells z16 33) = w1 at *
  go_region
  replace F := F.drew
  clear c2 d0 d1 hf
  generalize w1.drew = w2 at *
  go_wp2_with ((with_reducible refine store_inR rfl _ _ rfl (w.heap.size + 1) z16 z16 rfl rfl F.z z16_size z16_size z16_one ?_); intro W6 z6 b6 s6; have F6 := F.done z6 b6)
  exact bodyPost_ret (v := .tuple #[inV inZ, .bool false]) (results_ct rfl _ _ (w.heap.size + 1) 33 z16 (0, 0) _ _ rfl rfl F6.z.h Tryz.underlying33 rfl (szIn inZ)) rfl ⟨rfl, F6.k⟩
set_option maxRecDepth 8000 in
theorem fitting_err (R : Rd w N B a len cap zs p c 0) (tabs : Tabs w) (r : Rw) (ok : r.ok) (h : fitB c r = true) {n : Int} (hb : byM zs c p r = .error n) :
    Calls Tryz.prog 224 #[rp B, rwV r] w fun e w' => e = .panicked (errP n) ∧ Below w.heap.size w w' := by
  have F := FF.start R r
  have hf : (bits .and .u32 c r.g != r.c) = false := by unfold fitB at h; simp [bne, h]
  have hBy := Lib.hid (fun W (F : FF w W N B a len cap zs p c r z16) => by_err F.r.v (tabs.below F.k) r ok hb)
  have c2 := F.r.c2
  have d0 := F.e.cell (i := 0) (v := .int .u32 r.g) rfl
  have d1 := F.e.cell (i := 1) (v := .int .u32 r.c) rfl
  clear h hb ok
  go_enter Tryz.func224, Tryz.ntmps224
  go_upto_region 1 with fail
  generalize (w.alloc (.cells (rw5 r) 226)).alloc (.cells z16 33) = w0 at *
  go_region
  replace F := F.drew
  clear c2 d0 d1 hf
  generalize w0.drew = w1 at *
  go_upto_region 3 with fail
  refine wp_region_held_drew (S := fun W => FF w W N B a len cap zs p c r z16) (by kernel_rfl) F.drew (fun hH0 => ?_)
  refine wpAnyH_take (i := 0) (v := rp B) rfl (by kernel_rfl) (by kernel_rfl) (by kernel_rfl) (fun _ _ _ h => h) (Or.inl ⟨by kernel_rfl, ?_⟩) hH0 ?_
  · intro W hS
    go_simp
  try simp only [Act.put, List.setIfInBounds_toArray, List.set_cons_zero, List.set_cons_succ, List.getElem_toArray, List.getElem_cons_succ, List.getElem_cons_zero]
  refine wpAnyH_take (i := 1) (v := rp B) rfl (by kernel_rfl) (by kernel_rfl) (by kernel_rfl) (fun _ _ _ h => h) (Or.inl ⟨by kernel_rfl, ?_⟩) hH0 ?_
  · intro W hS
    go_simp
  try simp only [Act.put, List.setIfInBounds_toArray, List.set_cons_zero, List.set_cons_succ, List.getElem_toArray, List.getElem_cons_succ, List.getElem_cons_zero]
  refine wpAnyH_take (i := 2) (v := rdV a len cap p c 0) rfl (by kernel_rfl) (by kernel_rfl) (by kernel_rfl) (fun _ _ _ h => h) (Or.inl ⟨by kernel_rfl, ?_⟩) hH0 ?_
  · intro W hS
    exact run_load_row (by rfl) (by rfl) 202 _ (0, 0) _ hS.r.blk.h Tryz.underlying202 rfl (szRd a len cap p c 0)
  try simp only [Act.put, List.setIfInBounds_toArray, List.set_cons_zero, List.set_cons_succ, List.getElem_toArray, List.getElem_cons_succ, List.getElem_cons_zero]
  refine wpAnyH_take (i := 3) (v := rwV r) rfl (by kernel_rfl) (by kernel_rfl) (by kernel_rfl) (fun _ _ _ h => h) (Or.inl ⟨by kernel_rfl, ?_⟩) hH0 ?_
  · intro W hS
    exact run_load_row (by rfl) (by rfl) 226 _ (0, 0) _ hS.e.h Tryz.underlying226 rfl (szRw r)
  try simp only [Act.put, List.setIfInBounds_toArray, List.set_cons_zero, List.set_cons_succ, List.getElem_toArray, List.getElem_cons_succ, List.getElem_cons_zero]
  refine wpAnyH_ready (rs := [4, 5]) (by kernel_rfl) (by simp) ?_
  refine AllReadyH.cons rfl (fun K hK => ?_) (AllReadyH.cons rfl (fun K hK => ?_) AllReadyH.nil)
  · go_simp
    with_reducible refine (hBy.out _ hH0).mono ?_
    rintro e w2 ⟨rfl, bb⟩
    exact ⟨rfl, rfl, hH0.k.trans (bb.mono hH0.k.size)⟩
  · go_simp
    have kD : Blk (w1.alloc (.cells z16 33)).drew w1.heap.size 33 z16 := Blk.new w1.drew 33 z16
    have hH1 : FF w (w1.alloc (.cells z16 33)).drew N B a len cap zs p c r z16 := hH0.below ((Below.refl _ _).alloc (Nat.le_refl _) (.cells z16 33))
    have hD : w.heap.size + 1 < w1.heap.size := hH0.lt
    change K _ (w1.alloc (.cells z16 33)).drew
    generalize w1.heap.size = D at *
    refine hK.out _ _ hH1 (fun _ => ?_)
    clear hK K
    generalize (w1.alloc (.cells z16 33)).drew = w3 at *
    try simp only [Act.put, List.setIfInBounds_toArray, List.set_cons_zero, List.set_cons_succ, List.getElem_toArray, List.getElem_cons_succ, List.getElem_cons_zero]
    refine wpAnyH_ready (rs := [4]) (by kernel_rfl) (by simp) ?_
    refine AllReadyH.cons rfl (fun K hK => ?_) AllReadyH.nil
    go_simp
    with_reducible refine (hBy.out _ hH1).mono ?_
    rintro e w2 ⟨rfl, bb⟩
    exact ⟨rfl, rfl, hH1.k.trans (bb.mono hH1.k.size)⟩
set_option maxRecDepth 8000 in
theorem fitting_ok (R : Rd w N B a len cap zs p c 0) (tabs : Tabs w) (r : Rw) (ok : r.ok) (h : fitB c r = true) {i : In} (hb : byM zs c p r = .ok i) :
    Calls Tryz.prog 224 #[rp B, rwV r] w fun e w' => e = .returned (.tuple #[inV i, .bool (isB i)]) ∧ Below w.heap.size w w' := by
  have F := FF.start R r
  have hf : (bits .and .u32 c r.g != r.c) = false := by unfold fitB at h; simp [bne, h]
  have hBy := Lib.hid (fun W (F : FF w W N B a len cap zs p c r z16) => by_ok F.r.v (tabs.below F.k) r ok hb)
  have c2 := F.r.c2
  have d0 := F.e.cell (i := 0) (v := .int .u32 r.g) rfl
  have d1 := F.e.cell (i := 1) (v := .int .u32 r.c) rfl
  have hIs := Lib.hid (fun W (k : Below w.heap.size w W) => Is_any i W (tabs.below k))
  clear h hb ok
  go_enter Tryz.func224, Tryz.ntmps224
  go_upto_region 1 with fail
  generalize (w.alloc (.cells (rw5 r) 226)).alloc (.cells z16 33) = w0 at *
  go_region
  replace F := F.drew
  clear c2 d0 d1 hf
  generalize w0.drew = w1 at *
  go_upto_region 3 with fail
  go_cut [6] from 6 to 22 (fun t6 W => ∃ D, t6 = .pointer (some ⟨D, 0, none⟩) ∧ w.heap.size + 1 < D ∧ Blk W D 33 (in16 i) ∧ FF w W N B a len cap zs p c r z16)
  case first =>
    refine wp_region_held_drew (S := fun W => FF w W N B a len cap zs p c r z16) (by kernel_rfl) F.drew (fun hH0 => ?_)
    refine wpAnyH_take (i := 0) (v := rp B) rfl (by kernel_rfl) (by kernel_rfl) (by kernel_rfl) (fun _ _ _ h => h) (Or.inl ⟨by kernel_rfl, ?_⟩) hH0 ?_
    · intro W hS
      go_simp
    try simp only [Act.put, List.setIfInBounds_toArray, List.set_cons_zero, List.set_cons_succ, List.getElem_toArray, List.getElem_cons_succ, List.getElem_cons_zero]
    refine wpAnyH_take (i := 1) (v := rp B) rfl (by kernel_rfl) (by kernel_rfl) (by kernel_rfl) (fun _ _ _ h => h) (Or.inl ⟨by kernel_rfl, ?_⟩) hH0 ?_
    · intro W hS
      go_simp
    try simp only [Act.put, List.setIfInBounds_toArray, List.set_cons_zero, List.set_cons_succ, List.getElem_toArray, List.getElem_cons_succ, List.getElem_cons_zero]
    refine wpAnyH_take (i := 2) (v := rdV a len cap p c 0) rfl (by kernel_rfl) (by kernel_rfl) (by kernel_rfl) (fun _ _ _ h => h) (Or.inl ⟨by kernel_rfl, ?_⟩) hH0 ?_
    · intro W hS
      exact run_load_row (by rfl) (by rfl) 202 _ (0, 0) _ hS.r.blk.h Tryz.underlying202 rfl (szRd a len cap p c 0)
    try simp only [Act.put, List.setIfInBounds_toArray, List.set_cons_zero, List.set_cons_succ, List.getElem_toArray, List.getElem_cons_succ, List.getElem_cons_zero]
    refine wpAnyH_take (i := 3) (v := rwV r) rfl (by kernel_rfl) (by kernel_rfl) (by kernel_rfl) (fun _ _ _ h => h) (Or.inl ⟨by kernel_rfl, ?_⟩) hH0 ?_
    · intro W hS
      exact run_load_row (by rfl) (by rfl) 226 _ (0, 0) _ hS.e.h Tryz.underlying226 rfl (szRw r)
    try simp only [Act.put, List.setIfInBounds_toArray, List.set_cons_zero, List.set_cons_succ, List.getElem_toArray, List.getElem_cons_succ, List.getElem_cons_zero]
    refine wpAnyH_ready (rs := [4, 5]) (by kernel_rfl) (by simp) ?_
    refine AllReadyH.cons rfl (fun K hK => ?_) (AllReadyH.cons rfl (fun K hK => ?_) AllReadyH.nil)
    · go_simp
      with_reducible refine (hBy.out _ hH0).mono ?_
      rintro e w2 ⟨rfl, bb⟩
      have hH1 := hH0.below bb
      refine hK.out _ _ hH1 (fun _ => ?_)
      clear hK K
      try simp only [Act.put, List.setIfInBounds_toArray, List.set_cons_zero, List.set_cons_succ, List.getElem_toArray, List.getElem_cons_succ, List.getElem_cons_zero]
      refine wpAnyH_ready (rs := [5]) (by kernel_rfl) (by simp) ?_
      refine AllReadyH.cons rfl (fun K hK => ?_) AllReadyH.nil
      go_simp
      have kD := Blk.new w2 33 z16
      have hH2 := hH1.below ((Below.refl _ _).alloc (Nat.le_refl _) (.cells z16 33))
      have hD := hH1.lt
      generalize w2.heap.size = D at *
      generalize w2.alloc (.cells z16 33) = w3 at *
      refine hK.out _ _ hH2 (fun _ => ?_)
      clear hK K
      try simp only [Act.put, List.setIfInBounds_toArray, List.set_cons_zero, List.set_cons_succ, List.getElem_toArray, List.getElem_cons_succ, List.getElem_cons_zero]
      refine wpAnyH_ready (rs := [6]) (by kernel_rfl) (by simp) ?_
      refine AllReadyH.cons rfl (fun K hK => ?_) AllReadyH.nil
      rw [if_pos (by kernel_rfl)]
      refine wp_store_row 33 _ _ rfl D (in16 i) rfl rfl 33 z16 kD.h (szIn i) rfl (in16_one i) ?_
      have kA := kD.row (in16 i)
      have hH3 := hH2.but (But.row1 _ D (in16 i)) (by simpa using hD)
      refine hK.out _ _ hH3 (fun _ => ?_)
      clear hK K
      refine wpAnyH_done (by kernel_rfl) ?_ _
      go_wp2_with fail
      go_meet
      exact ⟨D, rfl, hD, kA, hH3⟩
    · go_simp
      have kD : Blk (w1.alloc (.cells z16 33)).drew w1.heap.size 33 z16 := Blk.new w1.drew 33 z16
      have hH1 : FF w (w1.alloc (.cells z16 33)).drew N B a len cap zs p c r z16 := hH0.below ((Below.refl _ _).alloc (Nat.le_refl _) (.cells z16 33))
      have hD : w.heap.size + 1 < w1.heap.size := hH0.lt
      change K _ (w1.alloc (.cells z16 33)).drew
      generalize w1.heap.size = D at *
      refine hK.out _ _ hH1 (fun _ => ?_)
      clear hK K
      generalize (w1.alloc (.cells z16 33)).drew = w3 at *
      try simp only [Act.put, List.setIfInBounds_toArray, List.set_cons_zero, List.set_cons_succ, List.getElem_toArray, List.getElem_cons_succ, List.getElem_cons_zero]
      refine wpAnyH_ready (rs := [4]) (by kernel_rfl) (by simp) ?_
      refine AllReadyH.cons rfl (fun K hK => ?_) AllReadyH.nil
      go_simp
      with_reducible refine (hBy.out _ hH1).mono ?_
      rintro e w2 ⟨rfl, bb⟩
      have hH2 := hH1.below bb
      replace kD := kD.below bb kD.lt
      refine hK.out _ _ hH2 (fun _ => ?_)
      clear hK K
      try simp only [Act.put, List.setIfInBounds_toArray, List.set_cons_zero, List.set_cons_succ, List.getElem_toArray, List.getElem_cons_succ, List.getElem_cons_zero]
      refine wpAnyH_ready (rs := [6]) (by kernel_rfl) (by simp) ?_
      refine AllReadyH.cons rfl (fun K hK => ?_) AllReadyH.nil
      rw [if_pos (by kernel_rfl)]
      refine wp_store_row 33 _ _ rfl D (in16 i) rfl rfl 33 z16 kD.h (szIn i) rfl (in16_one i) ?_
      have kA := kD.row (in16 i)
      have hH3 := hH2.but (But.row1 _ D (in16 i)) (by simpa using hD)
      refine hK.out _ _ hH3 (fun _ => ?_)
      clear hK K
      refine wpAnyH_done (by kernel_rfl) ?_ _
      go_wp2_with fail
      go_meet
      exact ⟨D, rfl, hD, kA, hH3⟩
  obtain ⟨D, rfl, hD, kA, F3⟩ := hcut
  go_wp2_with fail
  refine wp_region_held_drew (S := fun W => (∃ cs : Array Value, cs.size = 16 ∧ FF w W N B a len cap zs p c r cs) ∧ Blk W D 33 (in16 i)) (by kernel_rfl) ⟨⟨z16, z16_size, F3.drew⟩, kA.drew⟩ (fun hH0 => ?_)
  refine wpAnyH_take (i := 0) (v := inV i) rfl (by kernel_rfl) (by kernel_rfl) (by kernel_rfl) (fun _ _ _ h => h) (Or.inl ⟨by kernel_rfl, ?_⟩) hH0 ?_
  · intro W hS
    exact run_load_row (by rfl) (by rfl) 33 _ (0, 0) _ hS.2.h Tryz.underlying33 rfl (szIn i)
  try simp only [Act.put, List.setIfInBounds_toArray, List.set_cons_zero, List.set_cons_succ, List.getElem_toArray, List.getElem_cons_succ, List.getElem_cons_zero]
  refine wpAnyH_take (i := 1) (v := inV i) rfl (by kernel_rfl) (by kernel_rfl) (by kernel_rfl) (fun _ _ _ h => h) (Or.inl ⟨by kernel_rfl, ?_⟩) hH0 ?_
  · intro W hS
    exact run_load_row (by rfl) (by rfl) 33 _ (0, 0) _ hS.2.h Tryz.underlying33 rfl (szIn i)
  try simp only [Act.put, List.setIfInBounds_toArray, List.set_cons_zero, List.set_cons_succ, List.getElem_toArray, List.getElem_cons_succ, List.getElem_cons_zero]
  refine wpAnyH_ready (rs := [2]) (by kernel_rfl) (by simp) ?_
  refine AllReadyH.cons rfl (fun K hK => ?_) AllReadyH.nil
  go_simp
  obtain ⟨⟨cs, hcs, G0⟩, kA0⟩ := hH0
  with_reducible refine (hIs.out _ G0.k).mono ?_
  rintro e w2 ⟨rfl, bb⟩
  have hH1 := G0.below bb
  have kA2 := kA0.below bb kA0.lt
  refine hK.out _ _ ⟨⟨cs, hcs, hH1⟩, kA2⟩ (fun _ => ?_)
  clear hK K
  try simp only [Act.put, List.setIfInBounds_toArray, List.set_cons_zero, List.set_cons_succ, List.getElem_toArray, List.getElem_cons_succ, List.getElem_cons_zero]
  refine wpAnyH_ready (rs := [3]) (by kernel_rfl) (by simp) ?_
  refine AllReadyH.cons rfl (fun K hK => ?_) AllReadyH.nil
  rw [if_pos (by kernel_rfl)]
  refine wp_store_row 33 _ _ rfl (w.heap.size + 1) (in16 i) rfl rfl 33 cs hH1.z.h (szIn i) hcs (in16_one i) ?_
  have F4 := hH1.done (hH1.z.row (in16 i)) (But.row1 _ _ _)
  have kA3 := kA2.rowOther (M := w.heap.size + 1) (in16 i) (by omega)
  refine hK.out _ _ ⟨⟨_, in16_size i, F4⟩, kA3⟩ (fun _ => ?_)
  clear hK K
  try simp only [Act.put, List.setIfInBounds_toArray, List.set_cons_zero, List.set_cons_succ, List.getElem_toArray, List.getElem_cons_succ, List.getElem_cons_zero]
  refine wpAnyH_take (i := 4) (v := .bool (isB i)) rfl (by kernel_rfl) (by kernel_rfl) (by kernel_rfl) (fun _ _ _ h => h) (Or.inl ⟨by kernel_rfl, ?_⟩) ⟨⟨_, in16_size i, F4⟩, kA3⟩ ?_
  · intro W hS
    go_simp
  try simp only [Act.put, List.setIfInBounds_toArray, List.set_cons_zero, List.set_cons_succ, List.getElem_toArray, List.getElem_cons_succ, List.getElem_cons_zero]
  refine wpAnyH_done (by kernel_rfl) ?_ _
  go_wp2_with fail
  exact bodyPost_ret (v := .tuple #[inV i, .bool (isB i)]) (results_ct rfl _ _ (w.heap.size + 1) 33 (in16 i) (0, 0) _ _ rfl rfl F4.z.h Tryz.underlying33 rfl (szIn i)) rfl ⟨rfl, F4.k⟩
end
end Go.Proofs.YtcdoidnfdkodoaaGreatDoor
namespace Go.Proofs.YtcdoidnfdkodoaaGreatDoor
open Go.RowKit
set_option linter.unusedVariables false
set_option linter.unusedSimpArgs false
set_option linter.unusedSectionVars false
theorem or_code {x y : Int} (hx : 0 ≤ x ∧ x ≤ 255) (hy : 0 ≤ y ∧ y ≤ 255) : bits .or .u32 (x * 256) y = x * 256 + y := by
  obtain ⟨X, rfl⟩ := Int.eq_ofNat_of_zero_le hx.1
  obtain ⟨Y, rfl⟩ := Int.eq_ofNat_of_zero_le hy.1
  have e : ((X : Int) * 256) = ((X * 256 : Nat) : Int) := by omega
  rw [e, u32_or_nat' _ _ (by omega) (by omega)]
  have h := Nat.shiftLeft_add_eq_or_of_lt (a := X) (b := Y) (i := 8) (by omega)
  rw [Nat.shiftLeft_eq] at h
  rw [show X * 256 = X * 2 ^ 8 from rfl, ← h]
  omega
section
variable {w : World} {N B : Nat} {a : Option Addr} {len cap : Nat} {zs : List Int} {p : Nat} {c m : Int}
theorem opening_none (R : Rd w N B a len cap zs 0 c m) (h : ¬ 1 ≤ zs.length) :
    Calls Tryz.prog 223 #[rp B] w fun e w' => e = .panicked (errP 10) ∧ But [B] w.heap.size w w' := by
  have hN := Lib.hid (next1_no R (by simpa using h))
  go_enter Tryz.func223, Tryz.ntmps223
  go_wp2_with ((with_reducible refine hN.out.mono ?_); rintro e W2 ⟨rfl, b2⟩)
  exact ⟨rfl, rfl, But.of b2 _⟩
theorem opening_one (R : Rd w N B a len cap zs 0 c m) (h : 1 ≤ zs.length) (hc : ¬ (zs.getD 0 0 = 15 ∨ zs.getD 0 0 = 217 ∨ zs.getD 0 0 = 243)) :
    Calls Tryz.prog 223 #[rp B] w fun e w' => e = .returned (.int .u32 (zs.getD 0 0)) ∧ Rd w' N B a len cap zs 1 c m ∧ But [B] w.heap.size w w' := by
  have hN := Lib.hid (next1_yes R (by simpa using h))
  have h1 : ¬ zs.getD 0 0 = 15 := fun e => hc (.inl e)
  have h2 : ¬ zs.getD 0 0 = 217 := fun e => hc (.inr (.inl e))
  have h3 : ¬ zs.getD 0 0 = 243 := fun e => hc (.inr (.inr e))
  clear hc
  generalize zs.getD 0 0 = z at *
  go_enter Tryz.func223, Tryz.ntmps223
  go_wp2_with ((with_reducible refine hN.out.mono ?_); rintro e W2 ⟨rfl, r2, b2⟩)
  go_ret
  exact ⟨rfl, r2, b2⟩
theorem opening_short (R : Rd w N B a len cap zs 0 c m) (h : 1 ≤ zs.length) (hc : zs.getD 0 0 = 15 ∨ zs.getD 0 0 = 217 ∨ zs.getD 0 0 = 243) (h2 : ¬ 2 ≤ zs.length) :
    Calls Tryz.prog 223 #[rp B] w fun e w' => e = .panicked (errP 10) ∧ But [B] w.heap.size w w' := by
  have hN := Lib.hid (next1_yes R (by simpa using h))
  have hM := Lib.hid (fun W (R : Rd W N B a len cap zs 1 c m) => next1_no R h2)
  have hl := R.lt
  generalize zs.getD 0 0 = z at *
  rcases hc with rfl | rfl | rfl
  all_goals
  · go_enter Tryz.func223, Tryz.ntmps223
    go_wp2_with (first | ((with_reducible refine hN.out.mono ?_); rintro e W2 ⟨rfl, r2, b2⟩) | ((with_reducible refine (hM.out _ r2).mono ?_); rintro e W3 ⟨rfl, b3⟩))
    exact ⟨rfl, rfl, b2.trans (But.of (b3.mono b2.size) _)⟩
theorem opening_two (R : Rd w N B a len cap zs 0 c m) (h : 1 ≤ zs.length) (hc : zs.getD 0 0 = 15 ∨ zs.getD 0 0 = 217 ∨ zs.getD 0 0 = 243) (h2 : 2 ≤ zs.length) :
    Calls Tryz.prog 223 #[rp B] w fun e w' => e = .returned (.int .u32 (zs.getD 0 0 * 256 + zs.getD 1 0)) ∧ Rd w' N B a len cap zs 2 c m ∧ But [B] w.heap.size w w' := by
  have hN := Lib.hid (next1_yes R (by simpa using h))
  have hM := Lib.hid (fun W (R : Rd W N B a len cap zs 1 c m) => next1_yes R h2)
  have hb := getD_bd R.row.2.1 1
  have hl := R.lt
  have ho := or_code (x := zs.getD 0 0) (y := zs.getD 1 0) (by omega) hb
  generalize zs.getD 0 0 = z at *
  generalize zs.getD 1 0 = y at *
  rcases hc with rfl | rfl | rfl
  all_goals
  · simp only [Int.reduceMul] at ho
    go_enter Tryz.func223, Tryz.ntmps223
    go_wp2_with (first | ((with_reducible refine hN.out.mono ?_); rintro e W2 ⟨rfl, r2, b2⟩) | ((with_reducible refine (hM.out _ r2).mono ?_); rintro e W3 ⟨rfl, r3, b3⟩))
    go_ret
    exact ⟨ret_int (by omega), r3, b2.trans (b3.mono b2.size (fun _ h => .inl h))⟩
theorem opening_yes (R : Rd w N B a len cap zs 0 c m) {d : Int} {q : Nat} (h : openM zs = some (d, q)) :
    Calls Tryz.prog 223 #[rp B] w fun e w' => e = .returned (.int .u32 d) ∧ Rd w' N B a len cap zs q c m ∧ But [B] w.heap.size w w' := by
  unfold openM at h
  split at h
  · split at h
    · split at h
      · obtain ⟨rfl, rfl⟩ := Prod.mk.inj (Option.some.inj h)
        exact opening_two R (by assumption) (by assumption) (by assumption)
      · cases h
    · obtain ⟨rfl, rfl⟩ := Prod.mk.inj (Option.some.inj h)
      exact opening_one R (by assumption) (by assumption)
  · cases h
theorem opening_no (R : Rd w N B a len cap zs 0 c m) (h : openM zs = none) :
    Calls Tryz.prog 223 #[rp B] w fun e w' => e = .panicked (errP 10) ∧ But [B] w.heap.size w w' := by
  unfold openM at h
  split at h
  · split at h
    · split at h
      · cases h
      · exact opening_short R (by assumption) (by assumption) (by assumption)
    · cases h
  · exact opening_none R (by assumption)
end
def rowM (zs : List Int) (c : Int) (p : Nat) (r : Rw) : Except Int (In × Bool) :=
  if fitB c r then (match byM zs c p r with | .error x => .error x | .ok i => .ok (i, isB i)) else .ok (inZ, false)
theorem firstM_cons (zs : List Int) (c : Int) (p : Nat) (r : Rw) (rs : List Rw) :
    firstM zs c p (r :: rs) = match rowM zs c p r with | .error x => .error x | .ok (i, true) => .ok (some i) | .ok (_, false) => firstM zs c p rs := by
  unfold rowM
  rw [firstM]
  split
  · cases byM zs c p r with
    | error x => rfl
    | ok i => dsimp only; cases isB i <;> rfl
  · rfl
theorem firstM_skip (zs : List Int) (c : Int) (p : Nat) : ∀ (A B : List Rw), firstM zs c p A = .ok none → firstM zs c p (A ++ B) = firstM zs c p B := by
  intro A
  induction A with
  | nil => intro B h; rfl
  | cons r A ih =>
    intro B h
    rw [firstM_cons] at h
    rw [List.cons_append, firstM_cons]
    cases hr : rowM zs c p r with
    | error x => rw [hr] at h; cases h
    | ok x =>
      obtain ⟨i, b⟩ := x
      rw [hr] at h
      cases b
      · exact ih B h
      · cases h
section
variable {w : World} {N B : Nat} {a : Option Addr} {len cap : Nat} {zs : List Int} {p : Nat} {c m : Int}
theorem fitting_ret (R : Rd w N B a len cap zs p c 0) (tabs : Tabs w) (r : Rw) (ok : r.ok) {i : In} {b : Bool} (h : rowM zs c p r = .ok (i, b)) :
    Calls Tryz.prog 224 #[rp B, rwV r] w fun e w' => e = .returned (.tuple #[inV i, .bool b]) ∧ Below w.heap.size w w' := by
  unfold rowM at h
  split at h
  · rename_i hf
    cases hb : byM zs c p r with
    | error x => rw [hb] at h; cases h
    | ok j =>
      rw [hb] at h
      obtain ⟨rfl, rfl⟩ := Prod.mk.inj (Except.ok.inj h)
      exact fitting_ok R tabs r ok hf hb
  · rename_i hf
    obtain ⟨rfl, rfl⟩ := Prod.mk.inj (Except.ok.inj h)
    exact fitting_not R r (by simpa using hf)
theorem fitting_pan (R : Rd w N B a len cap zs p c 0) (tabs : Tabs w) (r : Rw) (ok : r.ok) {n : Int} (h : rowM zs c p r = .error n) :
    Calls Tryz.prog 224 #[rp B, rwV r] w fun e w' => e = .panicked (errP n) ∧ Below w.heap.size w w' := by
  unfold rowM at h
  split at h
  · rename_i hf
    cases hb : byM zs c p r with
    | error x =>
      rw [hb] at h
      obtain rfl := Except.error.inj h
      exact fitting_err R tabs r ok hf hb
    | ok j => rw [hb] at h; cases h
  · cases h
end
theorem ix_sl (b off n cap k : Nat) (h : k < n) (W : World) : (Instr.indexAt 224 (.slice (some ⟨b, off, none⟩) n cap) (.int .i64 (k : Int))).run Tryz.prog W = .ok (.pointer (some ⟨b, off + k * 5, none⟩)) W := by
  have s1 : ∀ W, (sizeOf 226).run Tryz.prog W = .ok 5 W := fun W => by kernel_rfl
  have hj : (k : Int) < n := by omega
  simp [Instr.indexAt, run_underlying Tryz.underlying224, s1, go_sem, hj, h, Instr.sureAddr]
abbrev rw0 : Array Value := #[.int .u32 0, .int .u32 0, .int .i64 0, .int .i64 0, .int .i64 0]
theorem rw5_one (r : Rw) : (rw5 r).all (·.oneCell') = true := by simp [Value.oneCell']
theorem store_rw_as {ops : Array Oper} {rest : List Oper} {o : Oper} {a : Act} {w0 : World} {Q : Exit → Act → World → Prop} (hgd : o.guard = none) (x y : Operand) (ho : o.op = .store 226 x y)
    (r : Rw) (hx : a.eval x = .pointer (some ⟨w0.heap.size, 0, none⟩)) (hy : a.eval y = rwV r)
    (h : ∀ W, Blk W w0.heap.size 226 (rw5 r) → Below w0.heap.size w0 W → wpList Tryz.prog ops Q rest (a.put o.dst undef) W) :
    wpList Tryz.prog ops Q (o :: rest) a (w0.alloc (.cells rw0 226)) := by
  refine wpList_store_row hgd 226 x y ho w0.heap.size (rw5 r) hx hy 226 rw0 (alloc_new _ _) (szRw r) rfl (rw5_one r) ?_
  exact h _ ((Blk.new w0 226 rw0).row (rw5 r)) (below_rowNew ((Below.refl _ _).alloc (Nat.le_refl _) _) (Nat.le_refl _) _)
theorem load_rwM {ops : Array Oper} {rest : List Oper} {o : Oper} {a : Act} {w : World} {Q : Exit → Act → World → Prop} (hgd : o.guard = none) (x : Operand) (ho : o.op = .load 226 x)
    (b off : Nat) (r : Rw) (hx : a.eval x = .pointer (some ⟨b, off, none⟩)) (hR : ∀ i, i < 5 → w.cell? ⟨b, off + i, none⟩ = (rw5 r)[i]?)
    (h : wpList Tryz.prog ops Q rest (a.put o.dst (rwV r)) w) : wpList Tryz.prog ops Q (o :: rest) a w := by
  refine wpList_load_mid hgd 226 x ho b off hx (rw5 r).toList _ (fun j v hj => ?_) Tryz.underlying226 rfl (by simpa using szRw r) (by simpa using h)
  have hj5 : j < 5 := by
    have := (List.getElem?_eq_some_iff.1 hj).1
    simpa using this
  rw [hR j hj5]
  simpa using hj
end Go.Proofs.YtcdoidnfdkodoaaGreatDoor
