import Derived.Test.YtcdoidnfdkodoaaGreatDoorS31
import Derived.Deep.CutRange
import Derived.Defers
import Derived.Recover
import Derived.Laws.Pointers
namespace Go.Proofs.YtcdoidnfdkodoaaGreatDoor
open Go.RowKit
set_option linter.unusedVariables false
set_option linter.unusedSimpArgs false
set_option linter.unusedSectionVars false
structure IF (w0 w W : World) (B : Nat) (a : Option Addr) (len cap : Nat) (zs : List Int) (p : Nat) (c : Int) (cs : Array Value) : Prop where
  r : Rd W w0.heap.size B a len cap zs p c 0
  z : Blk W w.heap.size 33 cs
  k : But [B] w.heap.size w W
  k0 : Below w0.heap.size w0 W
  hB : B < w.heap.size
section
variable {w0 w W W' : World} {B : Nat} {a : Option Addr} {len cap : Nat} {zs : List Int} {p : Nat} {c m : Int} {cs : Array Value}
theorem IF.lt (h : IF w0 w W B a len cap zs p c cs) : w.heap.size < W.heap.size := h.z.lt
theorem IF.start (R : Rd w w0.heap.size B a len cap zs p c 0) (k0 : Below w0.heap.size w0 w) : IF w0 w (w.alloc (.cells z16 33)) B a len cap zs p c z16 :=
  ⟨R.alloc _, Blk.new _ _ _, (But.refl _ _ _).alloc (Nat.le_refl _) _, k0.alloc k0.size _, R.lt⟩
theorem IF.read (h : IF w0 w W B a len cap zs p c cs) {q : Nat} {d : Int} (R : Rd W' w0.heap.size B a len cap zs q d 0) (k : But [B] W.heap.size W W') : IF w0 w W' B a len cap zs q d cs := by
  have hnb := h.r.nb
  have hB := h.hB
  exact ⟨R, h.z.but k h.lt (by simp; omega), h.k.trans (k.mono h.k.size (fun _ h => .inl h)), h.k0.trans (k.below h.k0.size (by simpa using hnb)), hB⟩
theorem IF.but (h : IF w0 w W B a len cap zs p c cs) {S : List Nat} (k : But S W.heap.size W W') (hS : ∀ x, x ∈ S → w.heap.size < x) : IF w0 w W' B a len cap zs p c cs := by
  have hnb := h.r.nb
  have hB := h.hB
  exact ⟨h.r.but k h.r.lt (fun hm => by have := hS _ hm; omega) (fun x hx => by have := hS _ hx; omega), h.z.but k h.lt (fun hm => by have := hS _ hm; omega), h.k.trans (k.mono h.k.size (fun x hx => .inr (by have := hS _ hx; omega))), h.k0.trans (k.below h.k0.size (fun x hx => by have := hS _ hx; omega)), hB⟩
theorem IF.below (h : IF w0 w W B a len cap zs p c cs) (k : Below W.heap.size W W') : IF w0 w W' B a len cap zs p c cs := h.but (But.of k []) (by simp)
theorem IF.done (h : IF w0 w W B a len cap zs p c cs) {cs' : Array Value} (z : Blk W' w.heap.size 33 cs') (k : But [w.heap.size] W.heap.size W W') : IF w0 w W' B a len cap zs p c cs' := by
  have hnb := h.r.nb
  have hB := h.hB
  exact ⟨h.r.but k h.r.lt (by simp; omega) (by simp; omega), z, h.k.trans (k.mono h.k.size (by simp)), h.k0.trans (k.below h.k0.size (by simp; omega)), hB⟩
theorem rows_cells {W0 W : World} {n : Nat} {L : List Rw} {b off : Nat} (hb : b < W0.heap.size) (h : ∀ k, k < n → ∀ i, i < 5 → W0.cell? ⟨b, off + k * 5 + i, none⟩ = (rw5 (L.getD k rwZ))[i]?) (k : Below W0.heap.size W0 W) :
    ∀ k, k < n → ∀ i, i < 5 → W.cell? ⟨b, off + k * 5 + i, none⟩ = (rw5 (L.getD k rwZ))[i]? := fun j hj i hi => (k.cell (p := ⟨b, _, none⟩) hb).trans (h j hj i hi)
theorem take_step {L : List Rw} {k : Nat} (hk : k < L.length) : L = L.take k ++ L.getD k rwZ :: L.drop (k + 1) := by
  have e : L.getD k rwZ = L[k] := by simp [List.getD_eq_getElem?_getD, hk]
  rw [e, List.getElem_cons_drop, List.take_append_drop]
theorem take_next {L : List Rw} {k : Nat} (hk : k < L.length) : L.take (k + 1) = L.take k ++ [L.getD k rwZ] := by
  have e : L.getD k rwZ = L[k] := by simp [List.getD_eq_getElem?_getD, hk]
  rw [e, List.take_succ_eq_append_getElem hk]
theorem single_ok (k : Nat) (hk : k < 44) : (singleLD.getD k rwZ).ok := by
  have : ∀ k, k < 44 → (singleLD.getD k rwZ).ok := by decide
  exact this k hk
theorem double_ok (k : Nat) (hk : k < 11) : (doubleL.getD k rwZ).ok := by
  have : ∀ k, k < 11 → (doubleL.getD k rwZ).ok := by decide
  exact this k hk
theorem first_at {zs : List Int} {c : Int} {p : Nat} {L M : List Rw} {k : Nat} (hk : k < L.length) (h : firstM zs c p (L.take k) = .ok none) :
    firstM zs c p (L ++ M) = match rowM zs c p (L.getD k rwZ) with | .error x => .error x | .ok (i, true) => .ok (some i) | .ok (_, false) => firstM zs c p (L.drop (k + 1) ++ M) := by
  have e : L ++ M = L.take k ++ (L.getD k rwZ :: (L.drop (k + 1) ++ M)) := by
    rw [← List.cons_append, ← List.append_assoc, ← take_step hk]
  rw [e, firstM_skip _ _ _ _ _ h, firstM_cons]
  cases rowM zs c p (L.getD k rwZ) with
  | error x => rfl
  | ok x => obtain ⟨i, b⟩ := x; cases b <;> rfl
theorem first_next {zs : List Int} {c : Int} {p : Nat} {L : List Rw} {k : Nat} (hk : k < L.length) (h : firstM zs c p (L.take k) = .ok none) {i : In} (hr : rowM zs c p (L.getD k rwZ) = .ok (i, false)) :
    firstM zs c p (L.take (k + 1)) = .ok none := by
  rw [take_next hk, firstM_skip _ _ _ _ _ h, firstM_cons, hr]
  rfl
def outM (x : Except Int (Option In)) : Ending := match x with | .error n => .panicked (errP n) | .ok none => .panicked (errP 12) | .ok (some i) => .returned (inV i)
theorem endM_decM {zs : List Int} {c : Int} {p : Nat} (h : openM zs = some (c, p)) : endM (decM zs) = outM (firstM zs c p (singleLD ++ doubleL)) := by
  unfold decM
  rw [h]
  dsimp only
  cases firstM zs c p (singleLD ++ doubleL) with
  | error x => rfl
  | ok o => cases o <;> rfl
end
section
variable {w0 w : World} {B : Nat} {a : Option Addr} {len cap : Nat} {zs : List Int} {m : Int}
theorem instruction_no (R : Rd w w0.heap.size B a len cap zs 0 0 0) (h : openM zs = none) :
    Calls Tryz.prog 187 #[rp B] w fun e w' => e = endM (decM zs) ∧ But [B] w.heap.size w w' := by
  have kb : But [B] w.heap.size w (w.alloc (.cells z16 33)) := (But.refl _ _ _).alloc (Nat.le_refl _) _
  have hd : decM zs = .error 10 := by unfold decM; rw [h]
  have hO := Lib.hid (opening_no (R.alloc (.cells z16 33)) h)
  rw [hd]
  go_enter Tryz.func187, Tryz.ntmps187
  go_wp2_with ((with_reducible refine hO.out.mono ?_); rintro e W2 ⟨rfl, b2⟩)
  exact ⟨rfl, rfl, kb.trans (b2.mono kb.size (fun _ h => .inl h))⟩
set_option maxHeartbeats 2000000 in
theorem instruction_yes (tabs : Tabs w0) (k0 : Below w0.heap.size w0 w) (R : Rd w w0.heap.size B a len cap zs 0 0 0) {c : Int} {p : Nat} (h : openM zs = some (c, p)) :
    Calls Tryz.prog 187 #[rp B] w fun e w' => e = endM (decM zs) ∧ But [B] w.heap.size w w' := by
  have hc := openM_bd R.row.2.1 h
  have F := IF.start R k0
  have hO := Lib.hid (opening_yes F.r h)
  rw [endM_decM h]
  obtain ⟨b1, o1, cap1, g1, l1, q1⟩ := tabs.2.2.1
  obtain ⟨b2, o2, cap2, g2, l2, q2⟩ := tabs.2.2.2
  have hqA := Lib.hid (fun W (k : Below w0.heap.size w0 W) => rows_cells l1 q1 k)
  have hqB := Lib.hid (fun W (k : Below w0.heap.size w0 W) => rows_cells l2 q2 k)
  have hgA := Lib.hid (fun W (k : Below w0.heap.size w0 W) => (k.cell (p := ⟨1, 0, none⟩) (Nat.lt_of_lt_of_le (show 1 < 7 by decide) tabs.1.1)).trans g1)
  have hgB := Lib.hid (fun W (k : Below w0.heap.size w0 W) => (k.cell (p := ⟨2, 0, none⟩) (Nat.lt_of_lt_of_le (show 2 < 7 by decide) tabs.1.1)).trans g2)
  clear g1 l1 q1 g2 l2 q2 h R k0
  generalize hX : outM (firstM zs c p (singleLD ++ doubleL)) = X at *
  replace hX := Lib.hid hX
  have w1e : w.alloc (.cells z16 33) = w.alloc (.cells z16 33) := rfl
  go_enter Tryz.func187, Tryz.ntmps187
  go_upto_region 2 with ((with_reducible refine hO.out.mono ?_); rintro e W2 ⟨rfl, r2, b2'⟩; have F2 := F.read r2 b2'; have c2 := F2.r.c2; have f2 := F2.r.blk.fr 2)
  have F3 := F2.read (F2.r.set2 c (by omega)) (But.cell1 _ _ _ _)
  clear c2 f2 w1e
  generalize W2.setCell ⟨B, 2, none⟩ (.int .u32 c) = W3 at *
  have cg := hgA.out _ F3.k0
  go_wp2_with fail
  go_loopw [18] (fun ii W => ∃ k : Nat, k ≤ 44 ∧ ii = .int .i64 k ∧ IF w0 w W B a len cap zs p c z16 ∧ firstM zs c p (singleLD.take k) = .ok none) (fun ii _ => (44 - intOf ii).toNat)
  case atStart => exact ⟨0, by omega, rfl, F3, rfl⟩
  case round =>
    clear F3 cg
    obtain ⟨k, hk, hi, F, hfn⟩ := hrel
    obtain rfl : _ = Value.int .i64 (k : Int) := hi
    by_cases hkn : k < 44
    · have hz : ((k : Int) < 44) = True := eq_true (by omega)
      have hwr : IntKind.i64.wrap ((k : Int) + 1) = (k : Int) + 1 := by rw [IntKind.wrap_i64]; omega
      have hix := ix_sl b1 o1 44 cap1 k hkn
      have hcl := Lib.hid (hqA.out _ F.k0 k hkn)
      have hok := single_ok k hkn
      have hfa := first_at (M := doubleL) (show k < singleLD.length from hkn) hfn
      have hnx := fun i => first_next (i := i) (show k < singleLD.length from hkn) hfn
      generalize singleLD.getD k rwZ = r at *
      clear hfn
      have hPan := fun n h => Lib.hid (fun W (F : IF w0 w W B a len cap zs p c z16) => fitting_pan F.r (tabs.below F.k0) r hok (n := n) h)
      have hRet := fun i bb h => Lib.hid (fun W (F : IF w0 w W B a len cap zs p c z16) => fitting_ret F.r (tabs.below F.k0) r hok (i := i) (b := bb) h)
      replace hnx := Lib.hid hnx
      cases hr : rowM zs c p r with
      | error x =>
        rw [hr] at hfa
        have hP := hPan x hr
        clear hPan hRet hnx
        go_wp2_with (first | (with_reducible refine load_rwM rfl _ rfl b1 (o1 + k * 5) r rfl hcl.out ?_) | ((with_reducible refine store_rw_as rfl _ _ rfl r rfl rfl ?_); intro W4 kE b4; have F4 := F.below b4; have hE := F.lt) | (with_reducible refine load_rwR rfl _ rfl _ r rfl kE ?_) | ((with_reducible refine (hP.out _ F4).mono ?_); rintro e W5 ⟨rfl, b5⟩))
        exact ⟨rfl, by rw [← hX.out, hfa]; rfl, F4.k.trans (But.of (b5.mono F4.k.size) _)⟩
      | ok x =>
        obtain ⟨i, bo⟩ := x
        have hR := hRet i bo hr
        clear hPan hRet
        cases bo
        · rw [hr] at hfa
          replace hnx := hnx.out i hr
          go_wp2_with (first | (with_reducible refine load_rwM rfl _ rfl b1 (o1 + k * 5) r rfl hcl.out ?_) | ((with_reducible refine store_rw_as rfl _ _ rfl r rfl rfl ?_); intro W4 kE b4; have F4 := F.below b4; have hE := F.lt) | (with_reducible refine load_rwR rfl _ rfl _ r rfl kE ?_) | ((with_reducible refine (hR.out _ F4).mono ?_); rintro e W5 ⟨rfl, b5⟩; have F5 := F4.below b5) | ((with_reducible refine store_in_as rfl _ _ rfl (in16 i) (in16_size _) (in16_one _) rfl rfl ?_); intro W6 kI b6; have F6 := F5.below b6; have hD := F5.lt))
          go_roundw
          case rel => exact ⟨k + 1, by omega, by go_num, F6, hnx⟩
          case measure => simp [intOf]; omega
        · rw [hr] at hfa
          clear hnx
          go_wp2_with (first | (with_reducible refine load_rwM rfl _ rfl b1 (o1 + k * 5) r rfl hcl.out ?_) | ((with_reducible refine store_rw_as rfl _ _ rfl r rfl rfl ?_); intro W4 kE b4; have F4 := F.below b4; have hE := F.lt) | (with_reducible refine load_rwR rfl _ rfl _ r rfl kE ?_) | ((with_reducible refine (hR.out _ F4).mono ?_); rintro e W5 ⟨rfl, b5⟩; have F5 := F4.below b5) | ((with_reducible refine store_in_as rfl _ _ rfl (in16 i) (in16_size _) (in16_one _) rfl rfl ?_); intro W6 kI b6; have F6 := F5.below b6; have hD := F5.lt) | (with_reducible refine load_inR rfl _ rfl _ (in16 i) rfl kI (in16_size _) ?_) | ((with_reducible refine store_inR rfl _ _ rfl w.heap.size (in16 i) z16 rfl rfl F6.z (in16_size _) z16_size (in16_one _) ?_); intro W7 z7 b7 s7; have F7 := F6.done z7 b7))
          exact bodyPost_ret (v := inV i) (results_cell_row rfl _ _ w.heap.size 33 _ (0, 0) _ rfl F7.z.h Tryz.underlying33 rfl (szIn i)) rfl ⟨by rw [← hX.out, hfa]; rfl, F7.k⟩
    · obtain rfl : k = 44 := by omega
      rw [show ((44 : Nat) : Int) = 44 from rfl]
      have hD2 := Lib.hid (firstM_skip zs c p singleLD doubleL hfn)
      have F3 := F
      clear hfn F
      have cg := hgB.out _ F3.k0
      go_wp2_with fail
      go_loopw [33] (fun ii W => ∃ k : Nat, k ≤ 11 ∧ ii = .int .i64 k ∧ IF w0 w W B a len cap zs p c z16 ∧ firstM zs c p (doubleL.take k) = .ok none) (fun ii _ => (11 - intOf ii).toNat)
      case atStart => exact ⟨0, by omega, rfl, F3, rfl⟩
      case round =>
        clear F3 cg
        obtain ⟨k, hk, hi, F, hfn⟩ := hrel
        obtain rfl : _ = Value.int .i64 (k : Int) := hi
        by_cases hkn : k < 11
        · have hz : ((k : Int) < 11) = True := eq_true (by omega)
          have hwr : IntKind.i64.wrap ((k : Int) + 1) = (k : Int) + 1 := by rw [IntKind.wrap_i64]; omega
          have hix := ix_sl b2 o2 11 cap2 k hkn
          have hcl := Lib.hid (hqB.out _ F.k0 k hkn)
          have hok := double_ok k hkn
          have hfa := first_at (M := []) (show k < doubleL.length from hkn) hfn
          have hnx := fun i => first_next (i := i) (show k < doubleL.length from hkn) hfn
          rw [List.append_nil] at hfa
          generalize doubleL.getD k rwZ = r at *
          clear hfn
          have hPan := fun n h => Lib.hid (fun W (F : IF w0 w W B a len cap zs p c z16) => fitting_pan F.r (tabs.below F.k0) r hok (n := n) h)
          have hRet := fun i bb h => Lib.hid (fun W (F : IF w0 w W B a len cap zs p c z16) => fitting_ret F.r (tabs.below F.k0) r hok (i := i) (b := bb) h)
          replace hnx := Lib.hid hnx
          cases hr : rowM zs c p r with
          | error x =>
            rw [hr] at hfa
            have hP := hPan x hr
            clear hPan hRet hnx
            go_wp2_with (first | (with_reducible refine load_rwM rfl _ rfl b2 (o2 + k * 5) r rfl hcl.out ?_) | ((with_reducible refine store_rw_as rfl _ _ rfl r rfl rfl ?_); intro W4 kE b4; have F4 := F.below b4; have hE := F.lt) | (with_reducible refine load_rwR rfl _ rfl _ r rfl kE ?_) | ((with_reducible refine (hP.out _ F4).mono ?_); rintro e W5 ⟨rfl, b5⟩))
            exact ⟨rfl, by rw [← hX.out, (hD2.out.trans hfa)]; rfl, F4.k.trans (But.of (b5.mono F4.k.size) _)⟩
          | ok x =>
            obtain ⟨i, bo⟩ := x
            have hR := hRet i bo hr
            clear hPan hRet
            cases bo
            · rw [hr] at hfa
              replace hnx := hnx.out i hr
              go_wp2_with (first | (with_reducible refine load_rwM rfl _ rfl b2 (o2 + k * 5) r rfl hcl.out ?_) | ((with_reducible refine store_rw_as rfl _ _ rfl r rfl rfl ?_); intro W4 kE b4; have F4 := F.below b4; have hE := F.lt) | (with_reducible refine load_rwR rfl _ rfl _ r rfl kE ?_) | ((with_reducible refine (hR.out _ F4).mono ?_); rintro e W5 ⟨rfl, b5⟩; have F5 := F4.below b5) | ((with_reducible refine store_in_as rfl _ _ rfl (in16 i) (in16_size _) (in16_one _) rfl rfl ?_); intro W6 kI b6; have F6 := F5.below b6; have hD := F5.lt))
              go_roundw
              case rel => exact ⟨k + 1, by omega, by go_num, F6, hnx⟩
              case measure => simp [intOf]; omega
            · rw [hr] at hfa
              clear hnx
              go_wp2_with (first | (with_reducible refine load_rwM rfl _ rfl b2 (o2 + k * 5) r rfl hcl.out ?_) | ((with_reducible refine store_rw_as rfl _ _ rfl r rfl rfl ?_); intro W4 kE b4; have F4 := F.below b4; have hE := F.lt) | (with_reducible refine load_rwR rfl _ rfl _ r rfl kE ?_) | ((with_reducible refine (hR.out _ F4).mono ?_); rintro e W5 ⟨rfl, b5⟩; have F5 := F4.below b5) | ((with_reducible refine store_in_as rfl _ _ rfl (in16 i) (in16_size _) (in16_one _) rfl rfl ?_); intro W6 kI b6; have F6 := F5.below b6; have hD := F5.lt) | (with_reducible refine load_inR rfl _ rfl _ (in16 i) rfl kI (in16_size _) ?_) | ((with_reducible refine store_inR rfl _ _ rfl w.heap.size (in16 i) z16 rfl rfl F6.z (in16_size _) z16_size (in16_one _) ?_); intro W7 z7 b7 s7; have F7 := F6.done z7 b7))
              exact bodyPost_ret (v := inV i) (results_cell_row rfl _ _ w.heap.size 33 _ (0, 0) _ rfl F7.z.h Tryz.underlying33 rfl (szIn i)) rfl ⟨by rw [← hX.out, (hD2.out.trans hfa)]; rfl, F7.k⟩
        · obtain rfl : k = 11 := by omega
          rw [show ((11 : Nat) : Int) = 11 from rfl]
          have hfl := hD2.out.trans hfn
          go_wp2_with fail
          exact ⟨rfl, by rw [← hX.out, hfl]; rfl, F.k⟩
theorem instruction_any (tabs : Tabs w0) (k0 : Below w0.heap.size w0 w) (R : Rd w w0.heap.size B a len cap zs 0 0 0) :
    Calls Tryz.prog 187 #[rp B] w fun e w' => e = endM (decM zs) ∧ But [B] w.heap.size w w' := by
  cases h : openM zs with
  | none => exact instruction_no R h
  | some x => exact instruction_yes tabs k0 R (c := x.1) (p := x.2) h
end
end Go.Proofs.YtcdoidnfdkodoaaGreatDoor
namespace Go.Proofs.YtcdoidnfdkodoaaGreatDoor
open Go.RowKit
set_option linter.unusedVariables false
set_option linter.unusedSimpArgs false
set_option linter.unusedSectionVars false
theorem assert_yesD (n : Int) (w : World) : (Instr.typeAssert (.iface 57 (.int .i64 n)) 20 57 true).run Tryz.prog w = .ok (.tuple #[.int .i64 n, .bool true]) w := by kernel_rfl
theorem assert_noD (w : World) : (Instr.typeAssert .nilIface 20 57 true).run Tryz.prog w = .ok (.tuple #[.int .i64 0, .bool false]) w := by kernel_rfl
theorem rep15 : Array.replicate 15 undef = #[undef, undef, undef, undef, undef, undef, undef, undef, undef, undef, undef, undef, undef, undef, undef] := rfl
abbrev bp (K : Nat) : Value := .pointer (some ⟨K, 0, none⟩)
set_option maxHeartbeats 2000000 in
set_option maxRecDepth 20000 in
/-- What is deferred, where reading panics with an error. -/
theorem catch_err {K L : Nat} {w : World} {cs : Array Value} (n : Int) (m : Int) (kK : Blk w K 33 cs) (hz : cs.size = 16) (kL : Blk w L 57 #[.int .i64 m]) (hKL : K ≠ L) (older : List PanicEntry) :
    CallsD Tryz.prog 186 #[bp K, bp L] (.panicking ({ v := .iface 57 (.int .i64 n), recovered := false } :: older)) w fun e u' w' =>
      e = .returned (.tuple #[]) ∧ u' = .panicking ({ v := .iface 57 (.int .i64 n), recovered := true } :: older) ∧
      Blk w' K 33 z16 ∧ Blk w' L 57 #[.int .i64 n] ∧ But [K, L] w.heap.size w w' := by
  have hay := assert_yesD n
  have Kl := kK.lt
  have Ll := kL.lt
  have cL := kL.cell (i := 0) (v := .int .i64 m) rfl
  have fL := kL.fr 0
  refine callsD_of_wpS Tryz.func186 rfl fun c₀ cst hu => ?_
  apply wpS_seq
  apply wpS_region
  simp [wpOpsS, go_sem, recoverD, hu, Tryz.ntmps186, Exit.thenS, rep15]
  refine wpS_of_wp ?_
  go_wp2_with ((with_reducible refine store_inR rfl _ _ rfl K z16 _ rfl rfl kK z16_size hz z16_one ?_); intro W1 z1 k1 s1; have kL1 := kL.but k1 kL.lt (by simp; omega); have cL := kL1.cell (i := 0) (v := .int .i64 m) rfl; have fL := kL1.fr 0)
  have zK := z1.other 0 (.int .i64 n) hKL
  have zL : Blk (W1.setCell ⟨L, 0, none⟩ (.int .i64 n)) L 57 #[.int .i64 n] := kL1.set 0 (.int .i64 n)
  have kx : But [K, L] w.heap.size w (W1.setCell ⟨L, 0, none⟩ (.int .i64 n)) := (k1.mono (Nat.le_refl _) (fun x hx => .inl (by simp at hx ⊢; omega))).setCell (by simp) _
  generalize W1.setCell ⟨L, 0, none⟩ (.int .i64 n) = w' at *
  simp [bodyPostS, results, Tryz.results186, zK, zL, kx]
theorem catch_idleD (K L : Nat) (w : World) :
    CallsD Tryz.prog 186 #[bp K, bp L] .returning w fun e u' w' => e = .returned (.tuple #[]) ∧ u' = .returning ∧ Below w.heap.size w w' := by
  have hay := assert_noD
  refine callsD_of_wpS Tryz.func186 rfl fun c₀ cst hu => ?_
  apply wpS_seq
  apply wpS_region
  simp [wpOpsS, go_sem, recoverD, hu, Tryz.ntmps186, Exit.thenS, rep15]
  refine wpS_of_wp ?_
  go_wp2_with fail
  simp [bodyPostS, results, Tryz.results186, hu, Below.refl]
  try (cases c₀; simp_all)
structure RG (w W : World) (cs : Array Value) (n : Int) : Prop where
  kK : Blk W w.heap.size 33 cs
  hz : cs.size = 16
  kL : Blk W (w.heap.size + 1) 57 #[.int .i64 n]
  k : Below w.heap.size w W
theorem RG.but {w W W' : World} {cs : Array Value} {n : Int} (h : RG w W cs n) {S : List Nat} (k : But S W.heap.size W W') (hS : ∀ x, x ∈ S → w.heap.size + 1 < x) : RG w W' cs n := by
  have hl := h.kL.lt
  exact ⟨h.kK.but k (by omega) (fun hm => by have := hS _ hm; omega), h.hz, h.kL.but k hl (fun hm => by have := hS _ hm; omega), h.k.trans (k.below h.k.size (fun x hx => by have := hS _ hx; omega))⟩
theorem RG.below {w W W' : World} {cs : Array Value} {n : Int} (h : RG w W cs n) (k : Below W.heap.size W W') : RG w W' cs n := h.but (But.of k []) (by simp)
theorem results_cc {P : Program} {fn : Func} {p q : Tmp} {ty tq : TypeId} (h : fn.results = #[.cell p ty, .cell q tq]) (tmps : Array Value) (w : World) (g : Nat) (t : TypeId) (cs : Array Value) (fr : Nat × Nat) (d : TypeDesc) (g2 : Nat) (v : Value)
    (hp : tmps[p]? = some (.pointer (some ⟨g, 0, none⟩))) (hq : tmps[q]? = some (.pointer (some ⟨g2, 0, none⟩))) (hg : w.heap[g]? = some (.cells cs t fr)) (hv : ∀ w : World, w.cell? ⟨g2, 0, none⟩ = some v → (loadVar tq ⟨g2, 0, none⟩).run P w = .ok v w) (hc : w.cell? ⟨g2, 0, none⟩ = some v)
    (hu : P.underlying ty = some d) (hd : (match d with | .struct _ | .array _ _ => true | _ => false) = true) (hi : (P.info? ty).map (·.size) = some cs.size) :
    (results fn tmps).run P w = .ok (.tuple #[.agg cs, v]) w := by
  simp [results, h, hp, hq, asAddr, run_loadVar_row w g t ty cs fr d hg hu hd hi, hv w hc]
theorem load_errno (K : Nat) (n : Int) (w : World) (h : w.cell? ⟨K, 0, none⟩ = some (.int .i64 n)) : (loadVar 57 ⟨K, 0, none⟩).run Tryz.prog w = .ok (.int .i64 n) w := by
  simp [go_sem, h]
abbrev caughtByD (K : Nat) : List Deferred := [{ target := .fn (.func 186) #[bp K, bp (K + 1)], args := #[] }]
theorem RG.told {w W : World} {cs : Array Value} {n : Int} (h : RG w W cs n) {tm : Array Value} (h2 : tm[2]? = some (bp w.heap.size)) (h3 : tm[3]? = some (bp (w.heap.size + 1))) :
    (results Tryz.f139 tm).run Tryz.prog W = .ok (.tuple #[.agg cs, .int .i64 n]) W :=
  results_cc rfl tm W w.heap.size 33 cs (0, 0) _ (w.heap.size + 1) (.int .i64 n) h2 h3 h.kK.h (fun w hw => load_errno _ _ w hw) (h.kL.cell rfl) Tryz.underlying33 rfl ((szIn inZ).trans (congrArg some h.hz.symm))
theorem read_caught {w W : World} {cs : Array Value} {n x : Int} (h : RG w W cs n) {tm : Array Value} (h2 : tm[2]? = some (bp w.heap.size)) (h3 : tm[3]? = some (bp (w.heap.size + 1)))
    {R : Ending → World → Prop} (hR : ∀ W', Below w.heap.size w W' → R (.returned (.tuple #[inV inZ, .int .i64 x])) W') :
    Leaves Tryz.prog Tryz.f139 tm R (caughtByD w.heap.size) (.panicking (errP x)) W := by
  refine leaves_cons (f := 186) (args := #[bp w.heap.size, bp (w.heap.size + 1)]) (by simp) (by simp [go_sem]) ?_
  refine (catch_err x n h.kK h.hz h.kL (by omega) []).mono ?_
  rintro e u' W' ⟨rfl, rfl, zK, zL, kx⟩
  have G : RG w W' z16 x := ⟨zK, z16_size, zL, h.k.trans (kx.below h.k.size (by simp))⟩
  exact ⟨_, G.told h2 h3, hR W' G.k⟩
theorem read_left {w W : World} {i : In} (h : RG w W (in16 i) 0) {tm : Array Value} (h2 : tm[2]? = some (bp w.heap.size)) (h3 : tm[3]? = some (bp (w.heap.size + 1)))
    {R : Ending → World → Prop} (hR : ∀ W', Below w.heap.size w W' → R (.returned (.tuple #[inV i, .int .i64 0])) W') :
    Leaves Tryz.prog Tryz.f139 tm R (caughtByD w.heap.size) .returning W := by
  refine leaves_cons (f := 186) (args := #[bp w.heap.size, bp (w.heap.size + 1)]) (by simp) (by simp [go_sem]) ?_
  refine (catch_idleD w.heap.size (w.heap.size + 1) W).mono ?_
  rintro e u' W' ⟨rfl, rfl, bx⟩
  have G := h.below bx
  exact ⟨_, G.told h2 h3, hR W' G.k⟩
end Go.Proofs.YtcdoidnfdkodoaaGreatDoor
