import Derived.Test.YtcgleggdochbeaaDoorS23
import Derived.Deep.CutRange
namespace Go.Proofs.YtcgleggdochbeaaDoor
open Go.RowKit
set_option maxHeartbeats 8000000
set_option linter.unusedVariables false
set_option linter.unusedSimpArgs false
set_option linter.unusedSectionVars false
structure IF (w0 w W : World) (B : Nat) (a : Option Addr) (len cap : Nat) (zs : List Int) (p : Nat) (c : Int) (cs : Array Value) : Prop where
 r : Rd W w0.heap.size B a len cap zs p c 0
 z : Blk W w.heap.size 26 cs
 k : But [B] w.heap.size w W
 k0 : Below w0.heap.size w0 W
 hB : B < w.heap.size
section
variable {w0 w W W' : World} {B : Nat} {a : Option Addr} {len cap : Nat} {zs : List Int} {p : Nat} {c m : Int} {cs : Array Value}
theorem IF.lt (h : IF w0 w W B a len cap zs p c cs) : w.heap.size < W.heap.size := h.z.lt
theorem IF.start (R : Rd w w0.heap.size B a len cap zs p c 0) (k0 : Below w0.heap.size w0 w) : IF w0 w (w.alloc (.cells z16 26)) B a len cap zs p c z16 :=
 ⟨R.alloc _, Blk.new _ _ _, (But.refl _ _ _).alloc (Nat.le_refl _) _, k0.alloc k0.size _, R.lt⟩
theorem IF.read (h : IF w0 w W B a len cap zs p c cs) {q : Nat} {d : Int} (R : Rd W' w0.heap.size B a len cap zs q d 0) (k : But [B] W.heap.size W W') : IF w0 w W' B a len cap zs q d cs := by
 have hnb := h.r.nb
 have hB := h.hB
 exact ⟨R, h.z.but k h.lt (by simp; omega), h.k.trans (k.mono h.k.size (fun _ h => .inl h)), h.k0.trans (k.below h.k0.size (by simpa using hnb)), hB⟩
theorem IF.but (h : IF w0 w W B a len cap zs p c cs) {S : List Nat} (k : But S W.heap.size W W') (hS : ∀ x, x ∈ S → w.heap.size < x) : IF w0 w W' B a len cap zs p c cs := by
 have hnb := h.r.nb
 have hB := h.hB
 exact ⟨h.r.but k h.r.lt (fun hm => by have := hS _ hm; omega) (fun x hx => by have := hS _ hx; omega), h.z.but k h.lt (fun hm => by have := hS _ hm; omega), h.k.trans (k.mono h.k.size (fun x hx => .inr (by have := hS _ hx; omega))), h.k0.trans (k.below h.k0.size (fun x hx => by have := hS _ hx; omega)), hB⟩
theorem IF.below (h : IF w0 w W B a len cap zs p c cs) (k : Below W.heap.size W W') : IF w0 w W' B a len cap zs p c cs := h.but (But.of k []) (by simp)
theorem IF.done (h : IF w0 w W B a len cap zs p c cs) {cs' : Array Value} (z : Blk W' w.heap.size 26 cs') (k : But [w.heap.size] W.heap.size W W') : IF w0 w W' B a len cap zs p c cs' := by
 have hnb := h.r.nb
 have hB := h.hB
 exact ⟨h.r.but k h.r.lt (by simp; omega) (by simp; omega), z, h.k.trans (k.mono h.k.size (by simp)), h.k0.trans (k.below h.k0.size (by simp; omega)), hB⟩
theorem rows_cells {W0 W : World} {n : Nat} {L : List Rw} {b off : Nat} (hb : b < W0.heap.size) (h : ∀ k, k < n → ∀ i, i < 5 → W0.cell? ⟨b, off + k * 5 + i, none⟩ = (rw5 (L.getD k rwZ))[i]?) (k : Below W0.heap.size W0 W) :
  ∀ k, k < n → ∀ i, i < 5 → W.cell? ⟨b, off + k * 5 + i, none⟩ = (rw5 (L.getD k rwZ))[i]? := fun j hj i hi => (k.cell (p := ⟨b, _, none⟩) hb).trans (h j hj i hi)
theorem take_step {L : List Rw} {k : Nat} (hk : k < L.length) : L = L.take k ++ L.getD k rwZ :: L.drop (k + 1) := by
 have e : L.getD k rwZ = L[k] := by simp [List.getD_eq_getElem?_getD, hk]
 rw [e, List.getElem_cons_drop, List.take_append_drop]
theorem take_next {L : List Rw} {k : Nat} (hk : k < L.length) : L.take (k + 1) = L.take k ++ [L.getD k rwZ] := by
 have e : L.getD k rwZ = L[k] := by simp [List.getD_eq_getElem?_getD, hk]
 rw [e, List.take_succ_eq_append_getElem hk]
theorem single_ok (k : Nat) (hk : k < 44) : (singleL.getD k rwZ).ok := by
 have : ∀ k, k < 44 → (singleL.getD k rwZ).ok := by decide
 exact this k hk
theorem double_ok (k : Nat) (hk : k < 11) : (doubleL.getD k rwZ).ok := by
 have : ∀ k, k < 11 → (doubleL.getD k rwZ).ok := by decide
 exact this k hk
theorem first_at {zs : List Int} {c : Int} {p : Nat} {L M : List Rw} {k : Nat} (hk : k < L.length) (h : firstM zs c p (L.take k) = .ok none) :
  firstM zs c p (L ++ M) = match rowM zs c p (L.getD k rwZ) with | .error x => .error x | .ok (i, true) => .ok (some i) | .ok (_, false) => firstM zs c p (L.drop (k + 1) ++ M) := by
 have e : L ++ M = L.take k ++ (L.getD k rwZ :: (L.drop (k + 1) ++ M)) := by
  rw [← List.cons_append, ← List.append_assoc, ← take_step hk]
 rw [e, firstM_skip _ _ _ _ _ h, firstM_cons]
 cases rowM zs c p (L.getD k rwZ) with
 | error x => rfl
 | ok x => obtain ⟨i, b⟩ := x; cases b <;> rfl
theorem first_next {zs : List Int} {c : Int} {p : Nat} {L : List Rw} {k : Nat} (hk : k < L.length) (h : firstM zs c p (L.take k) = .ok none) {i : In} (hr : rowM zs c p (L.getD k rwZ) = .ok (i, false)) :
  firstM zs c p (L.take (k + 1)) = .ok none := by
 rw [take_next hk, firstM_skip _ _ _ _ _ h, firstM_cons, hr]
 rfl
def outM (x : Except Int (Option In)) : Ending := match x with | .error n => .panicked (errP n) | .ok none => .panicked (errP 12) | .ok (some i) => .returned (inV i)
theorem endM_decM {zs : List Int} {c : Int} {p : Nat} (h : openM zs = some (c, p)) : endM (decM zs) = outM (firstM zs c p (singleL ++ doubleL)) := by
 unfold decM
 rw [h]
 dsimp only
 cases firstM zs c p (singleL ++ doubleL) with
 | error x => rfl
 | ok o => cases o <;> rfl
end
section
variable {w0 w : World} {B : Nat} {a : Option Addr} {len cap : Nat} {zs : List Int} {m : Int}
theorem instruction_no (R : Rd w w0.heap.size B a len cap zs 0 0 0) (h : openM zs = none) :
  Calls Tryd.prog 56 #[rp B] w fun e w' => e = endM (decM zs) ∧ But [B] w.heap.size w w' := by
 have kb : But [B] w.heap.size w (w.alloc (.cells z16 26)) := (But.refl _ _ _).alloc (Nat.le_refl _) _
 have hd : decM zs = .error 10 := by unfold decM; rw [h]
 have hO := Lib.hid (opening_no (R.alloc (.cells z16 26)) h)
 rw [hd]
 go_enter Tryd.func56, Tryd.ntmps56
 go_wp2_with ((with_reducible refine hO.out.mono ?_); rintro e W2 ⟨rfl, b2⟩)
 exact ⟨rfl, rfl, kb.trans (b2.mono kb.size (fun _ h => .inl h))⟩
theorem instruction_yes (tabs : Tabs w0) (k0 : Below w0.heap.size w0 w) (R : Rd w w0.heap.size B a len cap zs 0 0 0) {c : Int} {p : Nat} (h : openM zs = some (c, p)) :
  Calls Tryd.prog 56 #[rp B] w fun e w' => e = endM (decM zs) ∧ But [B] w.heap.size w w' := by
 have hc := openM_bd R.row.2.1 h
 have F := IF.start R k0
 have hO := Lib.hid (opening_yes F.r h)
 rw [endM_decM h]
 obtain ⟨b1, o1, cap1, g1, l1, q1⟩ := tabs.2.2.1
 obtain ⟨b2, o2, cap2, g2, l2, q2⟩ := tabs.2.2.2
 have hqA := Lib.hid (fun W (k : Below w0.heap.size w0 W) => rows_cells l1 q1 k)
 have hqB := Lib.hid (fun W (k : Below w0.heap.size w0 W) => rows_cells l2 q2 k)
 have hgA := Lib.hid (fun W (k : Below w0.heap.size w0 W) => (k.cell (p := ⟨1, 0, none⟩) (Nat.lt_of_lt_of_le (show 1 < 4 by decide) tabs.1.1)).trans g1)
 have hgB := Lib.hid (fun W (k : Below w0.heap.size w0 W) => (k.cell (p := ⟨2, 0, none⟩) (Nat.lt_of_lt_of_le (show 2 < 4 by decide) tabs.1.1)).trans g2)
 clear g1 l1 q1 g2 l2 q2 h R k0
 generalize hX : outM (firstM zs c p (singleL ++ doubleL)) = X at *
 replace hX := Lib.hid hX
 have w1e : w.alloc (.cells z16 26) = w.alloc (.cells z16 26) := rfl
 go_enter Tryd.func56, Tryd.ntmps56
 go_upto_region 2 with ((with_reducible refine hO.out.mono ?_); rintro e W2 ⟨rfl, r2, b2'⟩; have F2 := F.read r2 b2'; have c2 := F2.r.c2; have f2 := F2.r.blk.fr 2)
 have F3 := F2.read (F2.r.set2 c (by omega)) (But.cell1 _ _ _ _)
 clear c2 f2 w1e
 generalize W2.setCell ⟨B, 2, none⟩ (.int .u32 c) = W3 at *
 have cg := hgA.out _ F3.k0
 go_wp2_with fail
 go_loopw [18] (fun ii W => ∃ k : Nat, k ≤ 44 ∧ ii = .int .i64 k ∧ IF w0 w W B a len cap zs p c z16 ∧ firstM zs c p (singleL.take k) = .ok none) (fun ii _ => (44 - intOf ii).toNat)
 case atStart => exact ⟨0, by omega, rfl, F3, rfl⟩
 case round =>
  clear F3 cg
  obtain ⟨k, hk, hi, F, hfn⟩ := hrel
  obtain rfl : _ = Value.int .i64 (k : Int) := hi
  by_cases hkn : k < 44
  ·have hz : ((k : Int) < 44) = True := eq_true (by omega)
   have hwr : IntKind.i64.wrap ((k : Int) + 1) = (k : Int) + 1 := by rw [IntKind.wrap_i64]; omega
   have hix := ix_sl b1 o1 44 cap1 k hkn
   have hcl := Lib.hid (hqA.out _ F.k0 k hkn)
   have hok := single_ok k hkn
   have hfa := first_at (M := doubleL) (show k < singleL.length from hkn) hfn
   have hnx := fun i => first_next (i := i) (show k < singleL.length from hkn) hfn
   generalize singleL.getD k rwZ = r at *
   clear hfn
   have hPan := fun n h => Lib.hid (fun W (F : IF w0 w W B a len cap zs p c z16) => fitting_pan F.r (tabs.below F.k0) r hok (n := n) h)
   have hRet := fun i bb h => Lib.hid (fun W (F : IF w0 w W B a len cap zs p c z16) => fitting_ret F.r (tabs.below F.k0) r hok (i := i) (b := bb) h)
   replace hnx := Lib.hid hnx
   cases hr : rowM zs c p r with
   | error x =>
    rw [hr] at hfa
    have hP := hPan x hr
    clear hPan hRet hnx
    go_wp2_with (first | (with_reducible refine load_rwM rfl _ rfl b1 (o1 + k * 5) r rfl hcl.out ?_) | ((with_reducible refine store_rw_as rfl _ _ rfl r rfl rfl ?_); intro W4 kE b4; have F4 := F.below b4; have hE := F.lt) | (with_reducible refine load_rwR rfl _ rfl _ r rfl kE ?_) | ((with_reducible refine (hP.out _ F4).mono ?_); rintro e W5 ⟨rfl, b5⟩))
    exact ⟨rfl, by rw [← hX.out, hfa]; rfl, F4.k.trans (But.of (b5.mono F4.k.size) _)⟩
   | ok x =>
    obtain ⟨i, bo⟩ := x
    have hR := hRet i bo hr
    clear hPan hRet
    cases bo
    ·rw [hr] at hfa
     replace hnx := hnx.out i hr
     go_wp2_with (first | (with_reducible refine load_rwM rfl _ rfl b1 (o1 + k * 5) r rfl hcl.out ?_) | ((with_reducible refine store_rw_as rfl _ _ rfl r rfl rfl ?_); intro W4 kE b4; have F4 := F.below b4; have hE := F.lt) | (with_reducible refine load_rwR rfl _ rfl _ r rfl kE ?_) | ((with_reducible refine (hR.out _ F4).mono ?_); rintro e W5 ⟨rfl, b5⟩; have F5 := F4.below b5) | ((with_reducible refine store_in_as rfl _ _ rfl (in16 i) (in16_size _) (in16_one _) rfl rfl ?_); intro W6 kI b6; have F6 := F5.below b6; have hD := F5.lt))
     go_roundw
     case rel => exact ⟨k + 1, by omega, by go_num, F6, hnx⟩
     case measure => simp [intOf]; omega
    ·rw [hr] at hfa
     clear hnx
     go_wp2_with (first | (with_reducible refine load_rwM rfl _ rfl b1 (o1 + k * 5) r rfl hcl.out ?_) | ((with_reducible refine store_rw_as rfl _ _ rfl r rfl rfl ?_); intro W4 kE b4; have F4 := F.below b4; have hE := F.lt) | (with_reducible refine load_rwR rfl _ rfl _ r rfl kE ?_) | ((with_reducible refine (hR.out _ F4).mono ?_); rintro e W5 ⟨rfl, b5⟩; have F5 := F4.below b5) | ((with_reducible refine store_in_as rfl _ _ rfl (in16 i) (in16_size _) (in16_one _) rfl rfl ?_); intro W6 kI b6; have F6 := F5.below b6; have hD := F5.lt) | (with_reducible refine load_inR rfl _ rfl _ (in16 i) rfl kI (in16_size _) ?_) | ((with_reducible refine store_inR rfl _ _ rfl w.heap.size (in16 i) z16 rfl rfl F6.z (in16_size _) z16_size (in16_one _) ?_); intro W7 z7 b7 s7; have F7 := F6.done z7 b7))
     exact bodyPost_ret (v := inV i) (results_cell_row rfl _ _ w.heap.size 26 _ (0, 0) _ rfl F7.z.h Tryd.underlying26 rfl (szIn i)) rfl ⟨by rw [← hX.out, hfa]; rfl, F7.k⟩
  ·obtain rfl : k = 44 := by omega
   rw [show ((44 : Nat) : Int) = 44 from rfl]
   have hD2 := Lib.hid (firstM_skip zs c p singleL doubleL hfn)
   have F3 := F
   clear hfn F
   have cg := hgB.out _ F3.k0
   go_wp2_with fail
   go_loopw [33] (fun ii W => ∃ k : Nat, k ≤ 11 ∧ ii = .int .i64 k ∧ IF w0 w W B a len cap zs p c z16 ∧ firstM zs c p (doubleL.take k) = .ok none) (fun ii _ => (11 - intOf ii).toNat)
   case atStart => exact ⟨0, by omega, rfl, F3, rfl⟩
   case round =>
    clear F3 cg
    obtain ⟨k, hk, hi, F, hfn⟩ := hrel
    obtain rfl : _ = Value.int .i64 (k : Int) := hi
    by_cases hkn : k < 11
    ·have hz : ((k : Int) < 11) = True := eq_true (by omega)
     have hwr : IntKind.i64.wrap ((k : Int) + 1) = (k : Int) + 1 := by rw [IntKind.wrap_i64]; omega
     have hix := ix_sl b2 o2 11 cap2 k hkn
     have hcl := Lib.hid (hqB.out _ F.k0 k hkn)
     have hok := double_ok k hkn
     have hfa := first_at (M := []) (show k < doubleL.length from hkn) hfn
     have hnx := fun i => first_next (i := i) (show k < doubleL.length from hkn) hfn
     rw [List.append_nil] at hfa
     generalize doubleL.getD k rwZ = r at *
     clear hfn
     have hPan := fun n h => Lib.hid (fun W (F : IF w0 w W B a len cap zs p c z16) => fitting_pan F.r (tabs.below F.k0) r hok (n := n) h)
     have hRet := fun i bb h => Lib.hid (fun W (F : IF w0 w W B a len cap zs p c z16) => fitting_ret F.r (tabs.below F.k0) r hok (i := i) (b := bb) h)
     replace hnx := Lib.hid hnx
     cases hr : rowM zs c p r with
     | error x =>
      rw [hr] at hfa
      have hP := hPan x hr
      clear hPan hRet hnx
      go_wp2_with (first | (with_reducible refine load_rwM rfl _ rfl b2 (o2 + k * 5) r rfl hcl.out ?_) | ((with_reducible refine store_rw_as rfl _ _ rfl r rfl rfl ?_); intro W4 kE b4; have F4 := F.below b4; have hE := F.lt) | (with_reducible refine load_rwR rfl _ rfl _ r rfl kE ?_) | ((with_reducible refine (hP.out _ F4).mono ?_); rintro e W5 ⟨rfl, b5⟩))
      exact ⟨rfl, by rw [← hX.out, (hD2.out.trans hfa)]; rfl, F4.k.trans (But.of (b5.mono F4.k.size) _)⟩
     | ok x =>
      obtain ⟨i, bo⟩ := x
      have hR := hRet i bo hr
      clear hPan hRet
      cases bo
      ·rw [hr] at hfa
       replace hnx := hnx.out i hr
       go_wp2_with (first | (with_reducible refine load_rwM rfl _ rfl b2 (o2 + k * 5) r rfl hcl.out ?_) | ((with_reducible refine store_rw_as rfl _ _ rfl r rfl rfl ?_); intro W4 kE b4; have F4 := F.below b4; have hE := F.lt) | (with_reducible refine load_rwR rfl _ rfl _ r rfl kE ?_) | ((with_reducible refine (hR.out _ F4).mono ?_); rintro e W5 ⟨rfl, b5⟩; have F5 := F4.below b5) | ((with_reducible refine store_in_as rfl _ _ rfl (in16 i) (in16_size _) (in16_one _) rfl rfl ?_); intro W6 kI b6; have F6 := F5.below b6; have hD := F5.lt))
       go_roundw
       case rel => exact ⟨k + 1, by omega, by go_num, F6, hnx⟩
       case measure => simp [intOf]; omega
      ·rw [hr] at hfa
       clear hnx
       go_wp2_with (first | (with_reducible refine load_rwM rfl _ rfl b2 (o2 + k * 5) r rfl hcl.out ?_) | ((with_reducible refine store_rw_as rfl _ _ rfl r rfl rfl ?_); intro W4 kE b4; have F4 := F.below b4; have hE := F.lt) | (with_reducible refine load_rwR rfl _ rfl _ r rfl kE ?_) | ((with_reducible refine (hR.out _ F4).mono ?_); rintro e W5 ⟨rfl, b5⟩; have F5 := F4.below b5) | ((with_reducible refine store_in_as rfl _ _ rfl (in16 i) (in16_size _) (in16_one _) rfl rfl ?_); intro W6 kI b6; have F6 := F5.below b6; have hD := F5.lt) | (with_reducible refine load_inR rfl _ rfl _ (in16 i) rfl kI (in16_size _) ?_) | ((with_reducible refine store_inR rfl _ _ rfl w.heap.size (in16 i) z16 rfl rfl F6.z (in16_size _) z16_size (in16_one _) ?_); intro W7 z7 b7 s7; have F7 := F6.done z7 b7))
       exact bodyPost_ret (v := inV i) (results_cell_row rfl _ _ w.heap.size 26 _ (0, 0) _ rfl F7.z.h Tryd.underlying26 rfl (szIn i)) rfl ⟨by rw [← hX.out, (hD2.out.trans hfa)]; rfl, F7.k⟩
    ·obtain rfl : k = 11 := by omega
     rw [show ((11 : Nat) : Int) = 11 from rfl]
     have hfl := hD2.out.trans hfn
     go_wp2_with fail
     exact ⟨rfl, by rw [← hX.out, hfl]; rfl, F.k⟩
theorem instruction_any (tabs : Tabs w0) (k0 : Below w0.heap.size w0 w) (R : Rd w w0.heap.size B a len cap zs 0 0 0) :
  Calls Tryd.prog 56 #[rp B] w fun e w' => e = endM (decM zs) ∧ But [B] w.heap.size w w' := by
 cases h : openM zs with
 | none => exact instruction_no R h
 | some x => exact instruction_yes tabs k0 R (c := x.1) (p := x.2) h
end
end Go.Proofs.YtcgleggdochbeaaDoor
