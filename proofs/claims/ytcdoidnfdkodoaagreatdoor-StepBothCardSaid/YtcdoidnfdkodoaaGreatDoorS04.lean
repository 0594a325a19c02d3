import Derived.Test.YtcdoidnfdkodoaaGreatDoorS03
import Derived.Deep.RegionHeld3
import Derived.Deep.RegionWith
namespace Go.Proofs.YtcdoidnfdkodoaaGreatDoor
open Go.RowKit
set_option linter.unusedVariables false
set_option linter.unusedSimpArgs false
set_option linter.unusedSectionVars false
def pokeE (m : Mm) (a : Int) (zs : List Int) : Bool := decide (mappedL m a zs.length = zs.length)
def pokeS (m : Mm) (a : Int) (zs : List Int) : Mm := if pokeE m a zs = true then putB m a.toNat zs else m
theorem pokeS_ok {m : Mm} (ok : m.ok) (a : Int) (ha : 0 ≤ a ∧ a ≤ 4294967295) (zs : List Int) (hz : ∀ z ∈ zs, 0 ≤ z ∧ z ≤ 255) : (pokeS m a zs).ok := by
  unfold pokeS
  split
  · rename_i h
    unfold pokeE at h
    rw [decide_eq_true_eq] at h
    by_cases h0 : zs.length = 0
    · rw [List.length_eq_zero_iff.1 h0, putB_nil]; exact ok
    · have he := mapped_end ok ha h (by omega)
      refine putB_ok ok _ _ hz fun i hi => ?_
      have := mapped_all h i hi
      rw [Int.emod_eq_of_lt (by omega) (by omega)] at this
      rw [show (a.toNat + i) / 256 = ((a + i) / 256).toNat by omega]
      exact this
  · exact ok
set_option maxRecDepth 8000 in
theorem Poke_any {B : Nat} {m : Mm} {w : World} (h : PAt w B m) (ok : m.ok) (a : Int) (ha : 0 ≤ a ∧ a ≤ 4294967295) (x : Option Addr) (len cap : Nat) (zs : List Int) (hr : Row8 w x len zs) (hl : len ≤ 9223372036854775807) :
    Calls Tryz.prog 32 #[mp B, .int .u32 a, .slice x len cap] w fun e w' => e = .returned (.int .i64 (errM (pokeE m a zs))) ∧ PAt w' B (pokeS m a zs) ∧ But [B] w.heap.size w w' := by
  obtain ⟨rfl, hz, h3⟩ := hr
  have hm := mapped_nat h ok a ha zs.length (by omega)
  unfold pokeS
  cases hp : pokeE m a zs with
  | false =>
    unfold pokeE at hp
    rw [decide_eq_false_iff_not] at hp
    have hle := mapped_le m a zs.length
    have hlt : mappedL m a zs.length < zs.length := by omega
    clear hp hle
    rw [if_neg (by decide)]
    generalize mappedL m a zs.length = k at *
    generalize zs.length = n at *
    go_enter Tryz.func32, Tryz.ntmps32
    go_wp2_with fail
    go_at_call 64
    refine hm.mono ?_
    rintro e w' ⟨rfl, rfl⟩
    go_wp2_with fail
    go_ret
    exact ⟨rfl, h, But.refl _ _ _⟩
  | true =>
    unfold pokeE at hp
    rw [decide_eq_true_eq] at hp
    rw [if_pos rfl]
    rcases h3 with rfl | ⟨b, off, rfl, hlt, hc⟩
    · rw [putB_nil]
      change Calls _ _ #[_, _, .int .i64 0] _ _ at hm
      change Calls _ _ #[_, _, .slice x 0 cap] _ _
      go_enter Tryz.func32, Tryz.ntmps32
      go_wp2_with fail
      go_at_call 64
      refine hm.mono ?_
      rintro e w' ⟨rfl, rfl⟩
      go_wp2_with fail
      go_ret
      exact ⟨rfl, h, But.refl _ _ _⟩
    · by_cases h0 : zs.length = 0
      · obtain rfl := List.length_eq_zero_iff.1 h0
        rw [putB_nil]
        change Calls _ _ #[_, _, .int .i64 0] _ _ at hm
        change Calls _ _ #[_, _, .slice _ 0 cap] _ _
        go_enter Tryz.func32, Tryz.ntmps32
        go_wp2_with fail
        go_at_call 64
        refine hm.mono ?_
        rintro e w' ⟨rfl, rfl⟩
        go_wp2_with fail
        go_ret
        exact ⟨rfl, h, But.refl _ _ _⟩
      · have he := mapped_end ok ha hp (by omega)
        rw [hp] at hm
        clear hp
        obtain ⟨A, rfl⟩ := Int.eq_ofNat_of_zero_le ha.1
        rw [Int.toNat_natCast]
        have hcut := cutL .u32 B A (by omega)
        obtain ⟨cs, hb, hcs⟩ := h.blk
        have hll : (zs.map (Value.int .u8)).length = zs.length := by simp
        have hcp := run_copy_row (P := Tryz.prog) w 66 66 3 5 B (64 + A) (16384 - A) (16384 - A) ⟨b, off, none⟩ zs.length cap cs 104 (zs.map (Value.int .u8)) (by kernel_rfl) (by kernel_rfl) hb (by rw [hll]; exact (Nat.min_eq_left (by omega)).symm)
          (fun j v hj => by
            have hj2 : j < zs.length := by have := (List.getElem?_eq_some_iff.1 hj).1; simpa using this
            rw [addN, hc j hj2, ← hj]
            simp [List.getD_eq_getElem?_getD, hj2]) (by rw [hll, hcs.size]; omega) (fun v hv => by simp only [List.mem_map] at hv; obtain ⟨z, -, rfl⟩ := hv; rfl)
        have hx := MAt.put h cs hb hcs A zs (by omega) (zs.map (Value.int .u8)) rfl
        have kx := (But.refl [B] w.heap.size w).setRow (g := B) (by simp) (cs.toList.take (64 + A) ++ zs.map (Value.int .u8) ++ cs.toList.drop (64 + A + (zs.map (Value.int .u8)).length)).toArray
        generalize (cs.toList.take (64 + A) ++ zs.map (Value.int .u8) ++ cs.toList.drop (64 + A + (zs.map (Value.int .u8)).length)).toArray = row at *
        rw [hll] at hcp
        clear hll hb hcs hc h
        generalize putB m A zs = m2 at *
        generalize zs.length = n at *
        go_enter Tryz.func32, Tryz.ntmps32
        go_wp2_with fail
        go_at_call 64
        refine hm.mono ?_
        rintro e w' ⟨rfl, rfl⟩
        go_wp2_with fail
        go_ret
        exact ⟨rfl, hx, kx⟩
abbrev fltV (k p a wt : Int) : Value := .agg #[.int .i64 k, .int .u32 p, .int .u32 a, .int .i64 wt]
abbrev fltP (a wt : Int) : List PanicEntry := [{ v := .iface 42 (fltV 1 0 a wt), recovered := false }]
theorem and_right {x r : Int} (hx : 0 ≤ x ∧ x ≤ 7) (hr : r = 1 ∨ r = 2 ∨ r = 4) : (bits .and .i64 x r == 0) = decide (x / r % 2 = 0) := by
  rcases (by omega : x = 0 ∨ x = 1 ∨ x = 2 ∨ x = 3 ∨ x = 4 ∨ x = 5 ∨ x = 6 ∨ x = 7) with rfl | rfl | rfl | rfl | rfl | rfl | rfl | rfl <;> rcases hr with rfl | rfl | rfl <;> rfl
theorem ask_any {B : Nat} {m : Mm} {w : World} (h : PAt w B m) (ok : m.ok) (a : Int) (ha : 0 ≤ a ∧ a ≤ 4294967295) (r : Int) (hr : r = 1 ∨ r = 2 ∨ r = 4) :
    Calls Tryz.prog 100 #[mp B, .int .u32 a, .int .i64 r] w fun e w' => e = (if placeL m a / r % 2 = 0 then .panicked (fltP a r) else .returned (.tuple #[])) ∧ w = w' := by
  have hp := rightsAt_any h ok a ha
  have hx := ok.r (a / 256).toNat
  change 0 ≤ placeL m a ∧ placeL m a ≤ 7 at hx
  have hb := and_right hx hr
  generalize placeL m a = x at *
  cases hd : decide (x / r % 2 = 0) with
  | true =>
    rw [hd] at hb
    rw [decide_eq_true_eq] at hd
    rw [if_pos hd]
    clear hd hx
    go_enter Tryz.func100, Tryz.ntmps100
    go_wp2_with fail
    go_at_call 113
    refine hp.mono ?_
    rintro e w' ⟨rfl, rfl⟩
    go_wp2_with fail
    exact ⟨rfl, rfl, rfl⟩
  | false =>
    rw [hd] at hb
    rw [decide_eq_false_iff_not] at hd
    rw [if_neg hd]
    clear hd hx
    go_enter Tryz.func100, Tryz.ntmps100
    go_wp2_with fail
    go_at_call 113
    refine hp.mono ?_
    rintro e w' ⟨rfl, rfl⟩
    go_wp2_with fail
    exact bodyPost_end (v := .tuple #[]) (by simp [results, Tryz.results100, go_sem]) rfl ⟨rfl, rfl⟩
theorem lackP_eq {m : Mm} {a r : Int} {i : Nat} : lackP m a r i = decide (placeL m ((a + i) % 4294967296) / r % 2 = 0) := rfl
set_option maxRecDepth 8000 in
theorem reached_yes {B : Nat} {m : Mm} {w : World} (h : PAt w B m) (ok : m.ok) (A n : Nat) (hA : A ≤ 4294967295) (r : Int) (hr : r = 1 ∨ r = 2 ∨ r = 4) (h0 : 0 < n) (h4 : n ≤ 4) (hl : lackL m A r n = none) :
    Calls Tryz.prog 61 #[mp B, .int .u32 A, .int .i64 n, .int .i64 r] w fun e w' => e = .returned (.slice (some ⟨B, 64 + A, none⟩) n (16384 - A)) ∧ w = w' := by
  have he := lack_end ok (a := A) (by omega) h4 hl h0
  have hcut := cutB .u32 B A n (by omega) (by omega)
  go_enter Tryz.func61, Tryz.ntmps61
  go_wp2_with fail
  go_loopw [11] (fun ii W => ∃ k : Nat, k ≤ n ∧ ii = .int .i64 k ∧ W = w) (fun ii _ => (n - intOf ii).toNat)
  case atStart => exact ⟨0, by omega, rfl, rfl⟩
  case round =>
    obtain ⟨k, hk, rfl, rfl⟩ := hrel
    by_cases hlt : k < n
    · have ha := ask_any h ok (((A : Int) + k) % 4294967296) (by omega) r hr
      rw [if_neg (by have := lack_none hl k hlt; rw [lackP_eq] at this; simpa using this), Int.emod_eq_of_lt (by omega) (by omega)] at ha
      go_wp2_with fail
      go_at_call 100
      refine ha.mono ?_
      rintro e w' ⟨rfl, rfl⟩
      go_wp2_with fail
      go_roundw
      case rel => exact ⟨k + 1, by omega, by go_num, trivial⟩
      case measure => simp [intOf]; omega
    · obtain rfl : k = n := by omega
      go_wp2_with fail
      go_ret
      exact ⟨rfl, rfl⟩
set_option maxRecDepth 8000 in
theorem reached_no {B : Nat} {m : Mm} {w : World} (h : PAt w B m) (ok : m.ok) (A n j : Nat) (hA : A ≤ 4294967295) (r : Int) (hr : r = 1 ∨ r = 2 ∨ r = 4) (h4 : n ≤ 4) (hl : lackL m A r n = some j) :
    Calls Tryz.prog 61 #[mp B, .int .u32 A, .int .i64 n, .int .i64 r] w fun e w' => e = .panicked (fltP ((A + j) % 4294967296) r) ∧ w = w' := by
  obtain ⟨hj, hj2', hj3'⟩ := lack_some hl
  have hj2 := hid hj2'
  have hj3 := hid hj3'
  clear hj2' hj3' hl
  go_enter Tryz.func61, Tryz.ntmps61
  go_wp2_with fail
  go_loopw [11] (fun ii W => ∃ k : Nat, k ≤ j ∧ ii = .int .i64 k ∧ W = w) (fun ii _ => (n - intOf ii).toNat)
  case atStart => exact ⟨0, by omega, rfl, rfl⟩
  case round =>
    obtain ⟨k, hk, rfl, rfl⟩ := hrel
    have hlt : k < n := by omega
    have ha := ask_any h ok (((A : Int) + k) % 4294967296) (by omega) r hr
    by_cases hkj : k < j
    · rw [if_neg (by have := hj3.out k hkj; rw [lackP_eq] at this; simpa using this)] at ha
      go_wp2_with fail
      go_at_call 100
      refine ha.mono ?_
      rintro e w' ⟨rfl, rfl⟩
      go_wp2_with fail
      go_roundw
      case rel => exact ⟨k + 1, by omega, by go_num, trivial⟩
      case measure => simp [intOf]; omega
    · obtain rfl : k = j := by omega
      rw [if_pos (by have := hj2.out; rw [lackP_eq] at this; simpa using this)] at ha
      clear hj hj2 hj3
      go_wp2_with fail
      go_at_call 100
      refine ha.mono ?_
      rintro e w' ⟨rfl, rfl⟩
      go_wp2_with fail
      exact ⟨rfl, rfl, rfl⟩
end Go.Proofs.YtcdoidnfdkodoaaGreatDoor
namespace Go.Proofs.YtcdoidnfdkodoaaGreatDoor
open Go.RowKit
set_option linter.unusedVariables false
set_option linter.unusedSimpArgs false
set_option linter.unusedSectionVars false
abbrev cp (K : Nat) : Value := .pointer (some ⟨K, 0, none⟩)
theorem single_or (v : Int) : singleL v = 1 ∨ singleL v = 2 ∨ singleL v = 4 := by unfold singleL; split <;> (try split) <;> simp
theorem num_bd (n : Int) : 0 < numL n ∧ numL n ≤ 4 := by unfold numL; split <;> (try split) <;> omega
structure Boxes (w : World) (B K0 K1 K2 K3 : Nat) (m : Mm) (v1 v2 v3 : Value) : Prop where
  h : PAt w B m
  c0 : w.cell? ⟨K0, 0, none⟩ = some (mp B)
  c1 : w.cell? ⟨K1, 0, none⟩ = some v1
  c2 : w.cell? ⟨K2, 0, none⟩ = some v2
  c3 : w.cell? ⟨K3, 0, none⟩ = some v3
theorem read_step {m : Mm} (ok : m.ok) (A k : Nat) (hk : k < 4) : bits .or .u32 (readL m A k) (m.b (A + k) % 4294967296 * 2 ^ (8 * k) % 4294967296) = readL m A (k + 1) := by
  have hb := ok.b (A + k)
  rw [Int.emod_eq_of_lt hb.1 (by omega)]
  exact or_byte _ _ k hk (read_bd ok A k) hb
set_option maxRecDepth 8000 in
theorem read1_yes {B K0 K1 K2 K3 K4 : Nat} {m : Mm} {w : World} (ok : m.ok) (A : Nat) (hA : A ≤ 4294967295) (n rt : Int) (b : Boxes w B K0 K1 K2 K3 m (.int .u32 A) (.int .i64 n) (.int .i64 rt)) (hl : lackL m A (singleL rt) (numL n) = none)
    (hK : B ≠ K4) (c4 : w.cell? ⟨K4, 0, none⟩ = some (.int .u32 0)) (f4 : w.frozen? ⟨K4, 0, none⟩ = false) :
    Calls Tryz.prog 188 #[cp K0, cp K1, cp K2, cp K3, cp K4] w fun e w' => e = .returned (.tuple #[]) ∧ w'.cell? ⟨K4, 0, none⟩ = some (.int .u32 (readL m A (numL n))) ∧ But [K4] w.heap.size w w' := by
  have hr := single_or rt
  have hn := num_bd n
  have he := lack_end ok (a := A) (by omega) hn.2 hl hn.1
  have hyes := fun w (h : PAt w B m) => reached_yes h ok A (numL n) hA (singleL rt) hr hn.1 hn.2 hl
  have hnum := fun w => number_any n w
  have hsin := fun w => single_any rt w
  generalize singleL rt = r at *
  generalize numL n = q at *
  clear hl hr
  have c0 := b.c0
  have c1 := b.c1
  have c2 := b.c2
  have c3 := b.c3
  have hd : w.drew.cell? ⟨K0, 0, none⟩ = some (mp B) ∧ w.drew.cell? ⟨K1, 0, none⟩ = some (.int .u32 A) ∧ w.drew.cell? ⟨K2, 0, none⟩ = some (.int .i64 n) ∧ w.drew.cell? ⟨K3, 0, none⟩ = some (.int .i64 rt) ∧ PAt w.drew B m := ⟨c0, c1, c2, c3, b.h.drew⟩
  have kd : But [K4] w.heap.size w w.drew := (But.refl _ _ _).drew
  have c4d : w.drew.cell? ⟨K4, 0, none⟩ = some (.int .u32 0) := c4
  have f4d : w.drew.frozen? ⟨K4, 0, none⟩ = false := f4
  go_enter Tryz.func188, Tryz.ntmps188
  go_wp2_with fail
  go_region_held3 (fun W => W.cell? ⟨K0, 0, none⟩ = some (mp B) ∧ W.cell? ⟨K1, 0, none⟩ = some (.int .u32 A) ∧ W.cell? ⟨K2, 0, none⟩ = some (.int .i64 n) ∧ W.cell? ⟨K3, 0, none⟩ = some (.int .i64 rt) ∧ PAt W B m)
    (first | exact hd | assumption)
    (first | (go_at_call 62; refine (hnum _).mono ?_; rintro e w' ⟨rfl, rfl⟩) | (go_at_call 189; refine (hsin _).mono ?_; rintro e w' ⟨rfl, rfl⟩) | (go_at_call 61; refine (hyes _ hd.2.2.2.2).mono ?_; rintro e w' ⟨rfl, rfl⟩))
  clear c0 c1 c2 c3 c4 f4
  have hB := hd.2.2.2.2
  clear hd b
  generalize w.drew = w1 at *
  go_wp2_with fail
  go_loopw [15] (fun ii W => ∃ k : Nat, k ≤ q ∧ ii = .int .i64 k ∧ PAt W B m ∧ W.cell? ⟨K4, 0, none⟩ = some (.int .u32 (readL m A k)) ∧ W.frozen? ⟨K4, 0, none⟩ = false ∧ But [K4] w.heap.size w W) (fun ii _ => (q - intOf ii).toNat)
  case atStart => exact ⟨0, by omega, rfl, hB, c4d, f4d, kd⟩
  case round =>
    obtain ⟨k, hk, rfl, hx, cx, fx, kx⟩ := hrel
    by_cases hlt : k < q
    · have hc := hx.b (A + k) (by omega)
      rw [show 64 + (A + k) = 64 + A + k by omega] at hc
      go_wp2_with fail
      go_region
      rw [read_step ok A k (by omega)]
      have hx' : PAt (wr.setCell ⟨K4, 0, none⟩ (.int .u32 (readL m A (k + 1)))).drew B m := (hx.other hK).drew
      have cx' : (wr.setCell ⟨K4, 0, none⟩ (.int .u32 (readL m A (k + 1)))).drew.cell? ⟨K4, 0, none⟩ = some (.int .u32 (readL m A (k + 1))) := by
        rw [World.cell?_drew]; simp [go_sem, cx]
      have fx' : (wr.setCell ⟨K4, 0, none⟩ (.int .u32 (readL m A (k + 1)))).drew.frozen? ⟨K4, 0, none⟩ = false := by
        rw [World.frozen?_drew]; simp [go_sem, fx]
      have kx' : But [K4] w.heap.size w (wr.setCell ⟨K4, 0, none⟩ (.int .u32 (readL m A (k + 1)))).drew := (kx.setCell (by simp) _).drew
      generalize (wr.setCell ⟨K4, 0, none⟩ (.int .u32 (readL m A (k + 1)))).drew = w2 at *
      clear cx fx kx hx hc
      go_wp2_with fail
      go_roundw
      case rel => exact ⟨k + 1, by omega, by go_num, hx', cx', fx', kx'⟩
      case measure => simp [intOf]; omega
    · obtain rfl : k = q := by omega
      go_wp2_with fail
      exact bodyPost_end (v := .tuple #[]) (by simp [results, Tryz.results188, go_sem]) rfl ⟨rfl, cx, kx⟩
set_option maxRecDepth 8000 in
theorem write1_no {B K0 K1 K2 K3 : Nat} {m : Mm} {w : World} (ok : m.ok) (A j : Nat) (hA : A ≤ 4294967295) (n v : Int) (b : Boxes w B K0 K1 K2 K3 m (.int .u32 A) (.int .i64 n) (.int .u32 v)) (hl : lackL m A 2 (numL n) = some j) :
    Calls Tryz.prog 60 #[cp K0, cp K1, cp K2, cp K3] w fun e w' => e = .panicked (fltP ((A + j) % 4294967296) 2) ∧ Below w.heap.size w w' := by
  have hn := num_bd n
  have hno := fun w (h : PAt w B m) => reached_no h ok A (numL n) j hA 2 (by omega) hn.2 hl
  have hnum := fun w => number_any n w
  generalize numL n = k at *
  clear hl hn
  have c0 := b.c0
  have c1 := b.c1
  have c2 := b.c2
  have hd : w.drew.cell? ⟨K0, 0, none⟩ = some (mp B) ∧ w.drew.cell? ⟨K1, 0, none⟩ = some (.int .u32 A) ∧ w.drew.cell? ⟨K2, 0, none⟩ = some (.int .i64 n) ∧ PAt w.drew B m := ⟨c0, c1, c2, b.h.drew⟩
  have kd : Below w.heap.size w w.drew := ⟨rfl, rfl, rfl, Nat.le_refl _, fun _ _ => rfl⟩
  go_enter Tryz.func60, Tryz.ntmps60
  go_wp2_with fail
  refine wp_region_held_drew (S := fun W => W.cell? ⟨K0, 0, none⟩ = some (mp B) ∧ W.cell? ⟨K1, 0, none⟩ = some (.int .u32 A) ∧ W.cell? ⟨K2, 0, none⟩ = some (.int .i64 n) ∧ PAt W B m) (by kernel_rfl) hd (fun hHeld => ?_)
  refine wpAnyH_take (i := 0) (v := mp B) rfl (by kernel_rfl) (by kernel_rfl) (by kernel_rfl) (fun _ _ _ h => h) (Or.inl ⟨by rfl, ?_⟩) hHeld ?_
  · intro W hS
    obtain ⟨s0, s1, s2, s4⟩ := hS
    go_simp
  simp only [Act.put, List.setIfInBounds_toArray, List.set_cons_zero, List.set_cons_succ]
  refine wpAnyH_take (i := 1) (v := .int .u32 A) rfl (by kernel_rfl) (by kernel_rfl) (by kernel_rfl) (fun _ _ _ h => h) (Or.inl ⟨by rfl, ?_⟩) hHeld ?_
  · intro W hS
    obtain ⟨s0, s1, s2, s4⟩ := hS
    go_simp
  simp only [Act.put, List.setIfInBounds_toArray, List.set_cons_zero, List.set_cons_succ]
  refine wpAnyH_take (i := 2) (v := .int .i64 n) rfl (by kernel_rfl) (by kernel_rfl) (by kernel_rfl) (fun _ _ _ h => h) (Or.inl ⟨by rfl, ?_⟩) hHeld ?_
  · intro W hS
    obtain ⟨s0, s1, s2, s4⟩ := hS
    go_simp
  simp only [Act.put, List.setIfInBounds_toArray, List.set_cons_zero, List.set_cons_succ]
  refine wpAnyH_ready (rs := [3]) (by kernel_rfl) (by simp) ?_
  refine AllReadyH.cons rfl (fun K hK => ?_) AllReadyH.nil
  go_simp
  go_at_call 62
  refine (hnum _).mono ?_
  rintro e w' ⟨rfl, rfl⟩
  refine hK.out _ _ hHeld (fun _ => ?_)
  clear hK K
  refine wpAnyH_ready (rs := [4]) (by kernel_rfl) (by simp) ?_
  refine AllReadyH.cons rfl (fun K hK => ?_) AllReadyH.nil
  go_simp
  go_at_call 61
  refine (hno _ hd.2.2.2).mono ?_
  rintro e w' ⟨rfl, rfl⟩
  exact ⟨rfl, rfl, kd⟩
def wroteS (m : Mm) (A : Nat) (n v : Int) : Mm := putB m A (bytesV v (numL n))
set_option maxRecDepth 8000 in
theorem write1_yes {B K0 K1 K2 K3 : Nat} {m : Mm} {w : World} (ok : m.ok) (A : Nat) (hA : A ≤ 4294967295) (n v : Int) (hv : 0 ≤ v ∧ v ≤ 4294967295) (b : Boxes w B K0 K1 K2 K3 m (.int .u32 A) (.int .i64 n) (.int .u32 v)) (hl : lackL m A 2 (numL n) = none) (hK : B ≠ K3) :
    Calls Tryz.prog 60 #[cp K0, cp K1, cp K2, cp K3] w fun e w' => e = .returned (.tuple #[]) ∧ PAt w' B (wroteS m A n v) ∧ But [B] w.heap.size w w' := by
  have hn := num_bd n
  have he := lack_end ok (a := A) (by omega) hn.2 hl hn.1
  have hyes := fun w (h : PAt w B m) => reached_yes h ok A (numL n) hA 2 (by omega) hn.1 hn.2 hl
  have hnum := fun w => number_any n w
  unfold wroteS
  generalize numL n = q at *
  clear hl
  have c0 := b.c0
  have c1 := b.c1
  have c2 := b.c2
  have c3 := b.c3
  have hd : w.drew.cell? ⟨K0, 0, none⟩ = some (mp B) ∧ w.drew.cell? ⟨K1, 0, none⟩ = some (.int .u32 A) ∧ w.drew.cell? ⟨K2, 0, none⟩ = some (.int .i64 n) ∧ PAt w.drew B m := ⟨c0, c1, c2, b.h.drew⟩
  have kd : But [B] w.heap.size w w.drew := (But.refl _ _ _).drew
  have c3d : w.drew.cell? ⟨K3, 0, none⟩ = some (.int .u32 v) := c3
  go_enter Tryz.func60, Tryz.ntmps60
  go_wp2_with fail
  go_region_held3 (fun W => W.cell? ⟨K0, 0, none⟩ = some (mp B) ∧ W.cell? ⟨K1, 0, none⟩ = some (.int .u32 A) ∧ W.cell? ⟨K2, 0, none⟩ = some (.int .i64 n) ∧ PAt W B m)
    (first | exact hd | assumption)
    (first | (go_at_call 62; refine (hnum _).mono ?_; rintro e w' ⟨rfl, rfl⟩) | (go_at_call 61; refine (hyes _ hd.2.2.2).mono ?_; rintro e w' ⟨rfl, rfl⟩))
  clear c0 c1 c2 c3
  have hB := hd.2.2.2
  clear hd b
  generalize w.drew = w1 at *
  go_wp2_with fail
  go_loopw [13] (fun ii W => ∃ k : Nat, k ≤ q ∧ ii = .int .i64 k ∧ PAt W B (putB m A (bytesV v k)) ∧ W.cell? ⟨K3, 0, none⟩ = some (.int .u32 v) ∧ But [B] w.heap.size w W) (fun ii _ => (q - intOf ii).toNat)
  case atStart => exact ⟨0, by omega, rfl, by rw [show bytesV v 0 = [] from rfl, putB_nil]; exact hB, c3d, kd⟩
  case round =>
    obtain ⟨k, hk, rfl, hx, cx, kx⟩ := hrel
    by_cases hlt : k < q
    · have hc := hx.b (A + k) (by omega)
      have hf := hx.fr (64 + A + k)
      rw [show 64 + (A + k) = 64 + A + k by omega] at hc
      have hx' : PAt (wr.setCell ⟨B, 64 + A + k, none⟩ (.int .u8 (v / 2 ^ (8 * k) % 256))) B (putB m A (bytesV v (k + 1))) := hx.set (64 + A + k) _ _ fun cs c => by
        rw [show 64 + A + k = 64 + (A + k) by omega]
        refine c.set_b (A + k) (by omega) _ _ rfl (fun j => ?_)
        rw [putB_snoc]
      have cx' : (wr.setCell ⟨B, 64 + A + k, none⟩ (.int .u8 (v / 2 ^ (8 * k) % 256))).cell? ⟨K3, 0, none⟩ = some (.int .u32 v) := by
        simp [go_sem, cx, hK, Ne.symm hK]
      have kx' := kx.setCell (p := ⟨B, 64 + A + k, none⟩) (by simp) (.int .u8 (v / 2 ^ (8 * k) % 256))
      go_wp2_with fail
      generalize (wr.setCell ⟨B, 64 + A + k, none⟩ (.int .u8 (v / 2 ^ (8 * k) % 256))) = w2 at *
      clear cx kx hx hc
      go_roundw
      case rel => exact ⟨k + 1, by omega, by go_num, hx', cx', kx'⟩
      case measure => simp [intOf]; omega
    · obtain rfl : k = q := by omega
      go_wp2_with fail
      exact bodyPost_end (v := .tuple #[]) (by simp [results, Tryz.results60, go_sem]) rfl ⟨rfl, hx, kx⟩
end Go.Proofs.YtcdoidnfdkodoaaGreatDoor
