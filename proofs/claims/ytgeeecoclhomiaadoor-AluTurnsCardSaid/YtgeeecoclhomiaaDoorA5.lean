/- What shifts make. -/
import Derived.Test.YtgeeecoclhomiaaDoorA3
import Derived.Deep.RegionHeld
namespace Go.Proofs.YtgeeecoclhomiaaDoor
open Go.RowKit
set_option linter.unusedVariables false
set_option linter.unusedSimpArgs false
set_option linter.unusedSectionVars false

/-- Flags behind a shift: a's bit that went out last, the result r, and OF. -/
def shF (a r : Int) (last : Nat) (o : Bool) : Nat → Bool
  | 0 => bitB a last | 1 => evenS r.toNat 8 | 2 => false | 3 => r == 0 | 4 => bitB r 31 | _ => o

set_option maxHeartbeats 2000000 in
theorem shifted_one (op : Int) (k : Nat) (hk : k < 8) (hc : ClassIs op k) (a r : Int)  (last : Nat) (f : Nat → Bool) (h : 0 ≤ a ∧ a ≤ 4294967295) (hr : 0 ≤ r ∧ r ≤ 4294967295) (hl : last ≤ 32) (w : World) (tabs : Tabs w) :
    Calls Tryd.prog 32 #[.int .i64 op, .int .u32 a, .int .u32 r, .int .i64 1, .int .i64 (last : Int), flV f] w fun e w' => e = .returned (.tuple #[.int .u32 r, flV (mixL (wrT k) f (shF a r last (!(bitB a 31 == bitB r 31))))]) ∧ Below w.heap.size w w' := by
  have qW := Lib.hid (fun W tabs => written_any op k hk hc f (shF a r last (!(bitB a 31 == bitB r 31))) W tabs)
  have qR := fun w => byResult_any r hr w
  rw [show flV (resF r) = .agg #[.bool false, .bool (evenS r.toNat 8), .bool false, .bool (r == 0), .bool (bitB r 31), .bool false] from rfl] at qR
  have qL := fun w => bit_any a last h hl w
  have qA := fun w => bit_31 a h w
  have qB := fun w => bit_31 r hr w
  have hv := Lib.hid (show flV (shF a r last (!(bitB a 31 == bitB r 31))) = (Value.agg #[.bool (bitB a last), .bool (evenS r.toNat 8), .bool false, .bool (r == 0), .bool (bitB r 31), .bool (!(bitB a 31 == bitB r 31))]) from rfl)
  clear hc hk
  generalize shF a r last (!(bitB a 31 == bitB r 31)) = s at *
  generalize mixL (wrT k) f s = g at *
  generalize evenS r.toNat 8 = p at *
  generalize bitB a last = b at *
  generalize bitB a 31 = a31 at *
  generalize bitB r 31 = q at *
  generalize (r == 0) = z at *
  replace qR := Lib.hid qR
  replace qL := Lib.hid qL
  replace qA := Lib.hid qA
  replace qB := Lib.hid qB
  have kF := (Blk.new w 24 (fl6 f)).alloc (.cells (fl6 fun _ => false) 24)
  have kR := Blk.new (w.alloc (.cells (fl6 f) 24)) 24 (fl6 fun _ => false)
  rw [World.size_alloc] at kR
  go_enter Tryd.func32, Tryd.ntmps32
  go_wp2_with fail
  refine (qR.out _).mono ?_
  rintro e w1 ⟨rfl, bb⟩
  replace kF := kF.below bb (by simp; omega)
  replace kR := kR.below bb (by simp)
  have kb : Below w.heap.size w w1 := (((Below.refl _ _).alloc (Nat.le_refl _) _).alloc (by simp) _).trans (bb.mono (by simp; omega))
  clear bb
  have hNM := kR.lt
  have hSB := kb.size
  have kM := Blk.new w1 24 #[.bool false, .bool p, .bool false, .bool z, .bool q, .bool false]
  replace kF := kF.alloc (.cells #[.bool false, .bool p, .bool false, .bool z, .bool q, .bool false] 24)
  replace kR := kR.alloc (.cells #[.bool false, .bool p, .bool false, .bool z, .bool q, .bool false] 24)
  replace kb := kb.alloc hSB (.cells #[.bool false, .bool p, .bool false, .bool z, .bool q, .bool false] 24)
  go_wp2_with fail
  generalize w1.alloc (.cells #[.bool false, .bool p, .bool false, .bool z, .bool q, .bool false] 24) = w2 at kM kF kR kb ⊢
  generalize w1.heap.size = M at *
  generalize hN : w.heap.size = N at *
  have hS0 := kF.drew
  replace kM := kM.drew
  replace kR := kR.drew
  replace kb := kb.drew
  refine wp_region_held_drew (S := fun W => Blk W N 24 (fl6 f)) (by kernel_rfl) hS0 (fun hH0 => ?_)
  generalize w2.drew = w3 at *
  refine wpAnyH_take (i := 0) (v := ?_) rfl (by kernel_rfl) (by kernel_rfl) (by kernel_rfl) (fun _ _ _ h => h) (Or.inl ⟨by kernel_rfl, ?_⟩) hH0 ?_
  rotate_left
  · intro W hS
    go_simp
    try rfl
  simp only [Act.put, List.setIfInBounds_toArray, List.set_cons_zero, List.set_cons_succ]
  refine wpAnyH_take (i := 1) (v := ?_) rfl (by kernel_rfl) (by kernel_rfl) (by kernel_rfl) (fun _ _ _ h => h) (Or.inl ⟨by kernel_rfl, ?_⟩) hH0 ?_
  rotate_left
  · intro W hS
    go_simp
    try rfl
  simp only [Act.put, List.setIfInBounds_toArray, List.set_cons_zero, List.set_cons_succ]
  refine wpAnyH_take (i := 3) (v := ?_) rfl (by kernel_rfl) (by kernel_rfl) (by kernel_rfl) (fun _ _ _ h => h) (Or.inl ⟨by kernel_rfl, ?_⟩) hH0 ?_
  rotate_left
  · intro W hS
    go_simp
    try rfl
  simp only [Act.put, List.setIfInBounds_toArray, List.set_cons_zero, List.set_cons_succ]
  refine wpAnyH_take (i := 4) (v := ?_) rfl (by kernel_rfl) (by kernel_rfl) (by kernel_rfl) (fun _ _ _ h => h) (Or.inl ⟨by kernel_rfl, ?_⟩) hH0 ?_
  rotate_left
  · intro W hS
    have c5 := hS.cell (i := 5) (v := .bool (f 5)) rfl
    go_simp
    try rfl
  simp only [Act.put, List.setIfInBounds_toArray, List.set_cons_zero, List.set_cons_succ]
  refine wpAnyH_ready (rs := [2]) (by kernel_rfl) (by simp) ?_
  refine AllReadyH.cons rfl (fun K hK => ?_) AllReadyH.nil
  go_simp
  with_reducible refine (qL.out _).mono ?_
  rintro e w9 ⟨rfl, rfl⟩
  refine hK.out _ _ hH0 (fun _ => ?_)
  clear hK K
  try simp only [Act.put, List.setIfInBounds_toArray, List.set_cons_zero, List.set_cons_succ]
  refine wpAnyH_take (i := 5) (v := ?_) rfl (by kernel_rfl) (by kernel_rfl) (by kernel_rfl) (fun _ _ _ h => h) (Or.inl ⟨by kernel_rfl, ?_⟩) hH0 ?_
  rotate_left
  · intro W hS
    go_simp
    try rfl
  simp only [Act.put, List.setIfInBounds_toArray, List.set_cons_zero, List.set_cons_succ]
  refine wpAnyH_ready (rs := [6]) (by kernel_rfl) (by simp) ?_
  refine AllReadyH.cons rfl (fun K hK => ?_) AllReadyH.nil
  have cq := kM.cell (i := 0) (v := .bool false) rfl
  have fr := kM.fr 0
  go_simp
  have kM2 : Blk (w3.setCell ⟨M, 0, none⟩ (.bool b)) M 24 #[.bool b, .bool p, .bool false, .bool z, .bool q, .bool false] := by simpa using kM.set 0 (.bool b)
  have hH1 := hH0.other (M := M) 0 (.bool b) (by omega)
  have kR2 := kR.other (M := M) 0 (.bool b) (by omega)
  have kb2 := kb.setCell (p := ⟨M, 0, none⟩) (by show N ≤ M; omega) (.bool b)
  clear cq fr
  refine hK.out _ _ hH1 (fun _ => ?_)
  clear hK K
  try simp only [Act.put, List.setIfInBounds_toArray, List.set_cons_zero, List.set_cons_succ, List.getElem_toArray, List.getElem_cons_succ, List.getElem_cons_zero]
  refine wpAnyH_take (i := 7) (v := ?_) rfl (by kernel_rfl) (by kernel_rfl) (by kernel_rfl) (fun _ _ _ h => h) (Or.inl ⟨by kernel_rfl, ?_⟩) hH1 ?_
  rotate_left
  · intro W hS
    go_simp
    try rfl
  simp only [Act.put, List.setIfInBounds_toArray, List.set_cons_zero, List.set_cons_succ]
  refine wpAnyH_ready (rs := [8]) (by kernel_rfl) (by simp) ?_
  refine AllReadyH.cons rfl (fun K hK => ?_) AllReadyH.nil
  have cq := kM2.cell (i := 5) (v := .bool false) rfl
  have fr := kM2.fr 5
  go_simp
  have kM3 : Blk ((w3.setCell ⟨M, 0, none⟩ (.bool b)).setCell ⟨M, 5, none⟩ (.bool (f 5))) M 24 #[.bool b, .bool p, .bool false, .bool z, .bool q, .bool (f 5)] := by simpa using kM2.set 5 (.bool (f 5))
  have hH2 := hH1.other (M := M) 5 (.bool (f 5)) (by omega)
  have kR3 := kR2.other (M := M) 5 (.bool (f 5)) (by omega)
  have kb3 := kb2.setCell (p := ⟨M, 5, none⟩) (by show N ≤ M; omega) (.bool (f 5))
  clear cq fr
  refine hK.out _ _ hH2 (fun _ => ?_)
  clear hK K
  try simp only [Act.put, List.setIfInBounds_toArray, List.set_cons_zero, List.set_cons_succ, List.getElem_toArray, List.getElem_cons_succ, List.getElem_cons_zero]
  refine wpAnyH_done (by kernel_rfl) ?_ _

  generalize (w3.setCell ⟨M, 0, none⟩ (.bool b)).setCell ⟨M, 5, none⟩ (.bool (f 5)) = w4 at *
  have hv2 : fl6 s = #[.bool b, .bool p, .bool false, .bool z, .bool q, .bool (!(a31 == q))] := Value.agg.inj hv.out
  have cq := kM3.cell (i := 5) (v := .bool (f 5)) rfl
  have fr := kM3.fr 5
  have kM4 : Blk (w4.setCell ⟨M, 5, none⟩ (.bool (!(a31 == q)))) M 24 (fl6 s) := by rw [hv2]; simpa using kM3.set 5 (.bool (!(a31 == q)))
  have kF4 := hH2.other (M := M) 5 (.bool (!(a31 == q))) (by omega)
  have kR4 := kR3.other (M := M) 5 (.bool (!(a31 == q))) (by omega)
  have kb4 := kb3.setCell (p := ⟨M, 5, none⟩) (by show N ≤ M; omega) (.bool (!(a31 == q)))
  have tabs4 := tabs.below (hN ▸ kb4)
  have hSB4 := kb4.size
  rw [hN] at hSB4
  clear kb kb2 kb3 kM kM2 kM3 hH0 hH1 hH2 kR kR2 kR3 hS0
  go_wp2_with (first | (with_reducible refine (qA.out _).mono ?_; rintro e w9 ⟨rfl, rfl⟩) | (with_reducible refine (qB.out _).mono ?_; rintro e w9 ⟨rfl, rfl⟩) | (with_reducible refine load_fl rfl _ rfl N f rfl kF4 ?_) | (with_reducible refine load_fl rfl _ rfl M s rfl kM4 ?_) | (with_reducible refine (qW.out _ tabs4).mono ?_; rintro e w5 ⟨rfl, bb⟩) | (with_reducible refine store_fl rfl _ _ rfl (N + 1) g (fun _ => false) rfl rfl (kR4.below bb kR4.lt) ?_))
  refine bodyPost_ret (v := .tuple #[.int .u32 r, flV g]) (res_sc rfl _ _ (N + 1) g _ rfl rfl ((kR4.below bb kR4.lt).row _)) rfl ⟨rfl, ?_⟩
  rw [hN]
  exact below_rowNew (kb4.trans (bb.mono hSB4)) (N := N + 1) (by omega) _
set_option maxHeartbeats 2000000 in
theorem shifted_more (op : Int) (k : Nat) (hk : k < 8) (hc : ClassIs op k) (a r : Int) (by_ : Int) (hby : (by_ == 1) = false) (last : Nat) (f : Nat → Bool) (h : 0 ≤ a ∧ a ≤ 4294967295) (hr : 0 ≤ r ∧ r ≤ 4294967295) (hl : last ≤ 32) (w : World) (tabs : Tabs w) :
    Calls Tryd.prog 32 #[.int .i64 op, .int .u32 a, .int .u32 r, .int .i64 by_, .int .i64 (last : Int), flV f] w fun e w' => e = .returned (.tuple #[.int .u32 r, flV (mixL (wrT k) f (shF a r last (f 5)))]) ∧ Below w.heap.size w w' := by
  have qW := Lib.hid (fun W tabs => written_any op k hk hc f (shF a r last (f 5)) W tabs)
  have qR := fun w => byResult_any r hr w
  rw [show flV (resF r) = .agg #[.bool false, .bool (evenS r.toNat 8), .bool false, .bool (r == 0), .bool (bitB r 31), .bool false] from rfl] at qR
  have qL := fun w => bit_any a last h hl w
  have qA := fun w => bit_31 a h w
  have qB := fun w => bit_31 r hr w
  have hv := Lib.hid (show flV (shF a r last (f 5)) = (Value.agg #[.bool (bitB a last), .bool (evenS r.toNat 8), .bool false, .bool (r == 0), .bool (bitB r 31), .bool (f 5)]) from rfl)
  clear hc hk
  generalize shF a r last (f 5) = s at *
  generalize mixL (wrT k) f s = g at *
  generalize evenS r.toNat 8 = p at *
  generalize bitB a last = b at *
  generalize bitB a 31 = a31 at *
  generalize bitB r 31 = q at *
  generalize (r == 0) = z at *
  replace qR := Lib.hid qR
  replace qL := Lib.hid qL
  replace qA := Lib.hid qA
  replace qB := Lib.hid qB
  have kF := (Blk.new w 24 (fl6 f)).alloc (.cells (fl6 fun _ => false) 24)
  have kR := Blk.new (w.alloc (.cells (fl6 f) 24)) 24 (fl6 fun _ => false)
  rw [World.size_alloc] at kR
  go_enter Tryd.func32, Tryd.ntmps32
  go_wp2_with fail
  refine (qR.out _).mono ?_
  rintro e w1 ⟨rfl, bb⟩
  replace kF := kF.below bb (by simp; omega)
  replace kR := kR.below bb (by simp)
  have kb : Below w.heap.size w w1 := (((Below.refl _ _).alloc (Nat.le_refl _) _).alloc (by simp) _).trans (bb.mono (by simp; omega))
  clear bb
  have hNM := kR.lt
  have hSB := kb.size
  have kM := Blk.new w1 24 #[.bool false, .bool p, .bool false, .bool z, .bool q, .bool false]
  replace kF := kF.alloc (.cells #[.bool false, .bool p, .bool false, .bool z, .bool q, .bool false] 24)
  replace kR := kR.alloc (.cells #[.bool false, .bool p, .bool false, .bool z, .bool q, .bool false] 24)
  replace kb := kb.alloc hSB (.cells #[.bool false, .bool p, .bool false, .bool z, .bool q, .bool false] 24)
  go_wp2_with fail
  generalize w1.alloc (.cells #[.bool false, .bool p, .bool false, .bool z, .bool q, .bool false] 24) = w2 at kM kF kR kb ⊢
  generalize w1.heap.size = M at *
  generalize hN : w.heap.size = N at *
  have hS0 := kF.drew
  replace kM := kM.drew
  replace kR := kR.drew
  replace kb := kb.drew
  refine wp_region_held_drew (S := fun W => Blk W N 24 (fl6 f)) (by kernel_rfl) hS0 (fun hH0 => ?_)
  generalize w2.drew = w3 at *
  refine wpAnyH_take (i := 0) (v := ?_) rfl (by kernel_rfl) (by kernel_rfl) (by kernel_rfl) (fun _ _ _ h => h) (Or.inl ⟨by kernel_rfl, ?_⟩) hH0 ?_
  rotate_left
  · intro W hS
    go_simp
    try rfl
  simp only [Act.put, List.setIfInBounds_toArray, List.set_cons_zero, List.set_cons_succ]
  refine wpAnyH_take (i := 1) (v := ?_) rfl (by kernel_rfl) (by kernel_rfl) (by kernel_rfl) (fun _ _ _ h => h) (Or.inl ⟨by kernel_rfl, ?_⟩) hH0 ?_
  rotate_left
  · intro W hS
    go_simp
    try rfl
  simp only [Act.put, List.setIfInBounds_toArray, List.set_cons_zero, List.set_cons_succ]
  refine wpAnyH_take (i := 3) (v := ?_) rfl (by kernel_rfl) (by kernel_rfl) (by kernel_rfl) (fun _ _ _ h => h) (Or.inl ⟨by kernel_rfl, ?_⟩) hH0 ?_
  rotate_left
  · intro W hS
    go_simp
    try rfl
  simp only [Act.put, List.setIfInBounds_toArray, List.set_cons_zero, List.set_cons_succ]
  refine wpAnyH_take (i := 4) (v := ?_) rfl (by kernel_rfl) (by kernel_rfl) (by kernel_rfl) (fun _ _ _ h => h) (Or.inl ⟨by kernel_rfl, ?_⟩) hH0 ?_
  rotate_left
  · intro W hS
    have c5 := hS.cell (i := 5) (v := .bool (f 5)) rfl
    go_simp
    try rfl
  simp only [Act.put, List.setIfInBounds_toArray, List.set_cons_zero, List.set_cons_succ]
  refine wpAnyH_ready (rs := [2]) (by kernel_rfl) (by simp) ?_
  refine AllReadyH.cons rfl (fun K hK => ?_) AllReadyH.nil
  go_simp
  with_reducible refine (qL.out _).mono ?_
  rintro e w9 ⟨rfl, rfl⟩
  refine hK.out _ _ hH0 (fun _ => ?_)
  clear hK K
  try simp only [Act.put, List.setIfInBounds_toArray, List.set_cons_zero, List.set_cons_succ]
  refine wpAnyH_take (i := 5) (v := ?_) rfl (by kernel_rfl) (by kernel_rfl) (by kernel_rfl) (fun _ _ _ h => h) (Or.inl ⟨by kernel_rfl, ?_⟩) hH0 ?_
  rotate_left
  · intro W hS
    go_simp
    try rfl
  simp only [Act.put, List.setIfInBounds_toArray, List.set_cons_zero, List.set_cons_succ]
  refine wpAnyH_ready (rs := [6]) (by kernel_rfl) (by simp) ?_
  refine AllReadyH.cons rfl (fun K hK => ?_) AllReadyH.nil
  have cq := kM.cell (i := 0) (v := .bool false) rfl
  have fr := kM.fr 0
  go_simp
  have kM2 : Blk (w3.setCell ⟨M, 0, none⟩ (.bool b)) M 24 #[.bool b, .bool p, .bool false, .bool z, .bool q, .bool false] := by simpa using kM.set 0 (.bool b)
  have hH1 := hH0.other (M := M) 0 (.bool b) (by omega)
  have kR2 := kR.other (M := M) 0 (.bool b) (by omega)
  have kb2 := kb.setCell (p := ⟨M, 0, none⟩) (by show N ≤ M; omega) (.bool b)
  clear cq fr
  refine hK.out _ _ hH1 (fun _ => ?_)
  clear hK K
  try simp only [Act.put, List.setIfInBounds_toArray, List.set_cons_zero, List.set_cons_succ, List.getElem_toArray, List.getElem_cons_succ, List.getElem_cons_zero]
  refine wpAnyH_take (i := 7) (v := ?_) rfl (by kernel_rfl) (by kernel_rfl) (by kernel_rfl) (fun _ _ _ h => h) (Or.inl ⟨by kernel_rfl, ?_⟩) hH1 ?_
  rotate_left
  · intro W hS
    go_simp
    try rfl
  simp only [Act.put, List.setIfInBounds_toArray, List.set_cons_zero, List.set_cons_succ]
  refine wpAnyH_ready (rs := [8]) (by kernel_rfl) (by simp) ?_
  refine AllReadyH.cons rfl (fun K hK => ?_) AllReadyH.nil
  have cq := kM2.cell (i := 5) (v := .bool false) rfl
  have fr := kM2.fr 5
  go_simp
  have kM3 : Blk ((w3.setCell ⟨M, 0, none⟩ (.bool b)).setCell ⟨M, 5, none⟩ (.bool (f 5))) M 24 #[.bool b, .bool p, .bool false, .bool z, .bool q, .bool (f 5)] := by simpa using kM2.set 5 (.bool (f 5))
  have hH2 := hH1.other (M := M) 5 (.bool (f 5)) (by omega)
  have kR3 := kR2.other (M := M) 5 (.bool (f 5)) (by omega)
  have kb3 := kb2.setCell (p := ⟨M, 5, none⟩) (by show N ≤ M; omega) (.bool (f 5))
  clear cq fr
  refine hK.out _ _ hH2 (fun _ => ?_)
  clear hK K
  try simp only [Act.put, List.setIfInBounds_toArray, List.set_cons_zero, List.set_cons_succ, List.getElem_toArray, List.getElem_cons_succ, List.getElem_cons_zero]
  refine wpAnyH_done (by kernel_rfl) ?_ _

  generalize (w3.setCell ⟨M, 0, none⟩ (.bool b)).setCell ⟨M, 5, none⟩ (.bool (f 5)) = w4 at *
  have hv2 : fl6 s = #[.bool b, .bool p, .bool false, .bool z, .bool q, .bool (f 5)] := Value.agg.inj hv.out
  have kM4 : Blk w4 M 24 (fl6 s) := by rw [hv2]; exact kM3
  have kF4 := hH2
  have kR4 := kR3
  have kb4 := kb3
  have tabs4 := tabs.below (hN ▸ kb4)
  have hSB4 := kb4.size
  rw [hN] at hSB4
  clear kb kb2 kb3 kM kM2 kM3 hH0 hH1 hH2 kR kR2 kR3 hS0
  go_wp2_with (first | (with_reducible refine (qA.out _).mono ?_; rintro e w9 ⟨rfl, rfl⟩) | (with_reducible refine (qB.out _).mono ?_; rintro e w9 ⟨rfl, rfl⟩) | (with_reducible refine load_fl rfl _ rfl N f rfl kF4 ?_) | (with_reducible refine load_fl rfl _ rfl M s rfl kM4 ?_) | (with_reducible refine (qW.out _ tabs4).mono ?_; rintro e w5 ⟨rfl, bb⟩) | (with_reducible refine store_fl rfl _ _ rfl (N + 1) g (fun _ => false) rfl rfl (kR4.below bb kR4.lt) ?_))
  refine bodyPost_ret (v := .tuple #[.int .u32 r, flV g]) (res_sc rfl _ _ (N + 1) g _ rfl rfl ((kR4.below bb kR4.lt).row _)) rfl ⟨rfl, ?_⟩
  rw [hN]
  exact below_rowNew (kb4.trans (bb.mono hSB4)) (N := N + 1) (by omega) _
end Go.Proofs.YtgeeecoclhomiaaDoor
