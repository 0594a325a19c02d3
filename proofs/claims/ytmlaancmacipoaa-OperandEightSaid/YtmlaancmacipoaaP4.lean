/- A memory loaded from spans. -/
import Derived.Test.YtmlaancmacipoaaK0
namespace Go.Proofs.Ytmlaancmacipoaa
open Go.RowKit
set_option linter.unusedVariables false
set_option linter.unusedSimpArgs false
set_option linter.unusedSectionVars false

/-- A span: page, count, rights, bytes. -/
structure Sp where
  p : Int
  n : Int
  r : Int
  s : ByteArray
def bytesZ (s : ByteArray) : List Int := s.data.toList.map fun b => (b.toNat : Int)
theorem bytesZ_len (s : ByteArray) : (bytesZ s).length = s.size := by unfold bytesZ; rw [List.length_map]; rfl
theorem bytesZ_bd (s : ByteArray) : ∀ z ∈ bytesZ s, 0 ≤ z ∧ z ≤ 255 := by
  intro z hz
  simp only [bytesZ, List.mem_map] at hz
  obtain ⟨b, -, rfl⟩ := hz
  have := b.toNat_lt
  omega
theorem bytesZ_cells (s : ByteArray) : Lib.byteCells s.data.toList = (bytesZ s).map (Value.int .u8) := by simp [bytesZ, Lib.byteCells]
def spE (m : Mm) (x : Sp) : Bool := mapE m x.p x.n x.r && decide ((x.s.size : Int) ≤ x.n * 256)
def spS (m : Mm) (x : Sp) : Mm := putB (mapS m x.p x.n x.r) (x.p.toNat * 256) (bytesZ x.s)
def loadL : List Sp → Mm → Option Mm
  | [], m => some m
  | x :: L, m => if spE m x = true then loadL L (spS m x) else none
def imgE (o : Option Mm) : Int := match o with | none => 60 | some _ => 0
theorem spE_in {m : Mm} {x : Sp} (h : spE m x = true) : mapE m x.p x.n x.r = true ∧ (0 < x.r ∧ x.r ≤ 7) ∧ (0 ≤ x.p ∧ x.p < 64 ∧ 0 < x.n ∧ x.n ≤ 64 - x.p) ∧ (x.s.size : Int) ≤ x.n * 256 := by
  unfold spE at h
  rw [Bool.and_eq_true, decide_eq_true_eq] at h
  have h1 := h.1
  unfold mapE at h1
  rw [Bool.and_eq_true, are_iff, can_iff] at h1
  exact ⟨h.1, h1.1, h1.2.1, h.2⟩
theorem spS_ok {m : Mm} (ok : m.ok) (x : Sp) (h : spE m x = true) : (spS m x).ok := by
  obtain ⟨h0, h1, h2, h3⟩ := spE_in h
  refine putB_ok (mapS_ok ok _ _ _) _ _ (bytesZ_bd _) fun i hi => ?_
  rw [bytesZ_len] at hi
  unfold mapS
  rw [if_pos h0]
  dsimp only [setR]
  rw [if_pos (by omega)]
  omega
theorem loadL_ok : ∀ (L : List Sp) {m m' : Mm}, m.ok → loadL L m = some m' → m'.ok
  | [], m, m', ok, h => by cases h; exact ok
  | x :: L, m, m', ok, h => by
    unfold loadL at h
    split at h
    · rename_i he; exact loadL_ok L (spS_ok ok x he) h
    · cases h
/-- Spans as they lie in memory. -/
def SpansAt (w : World) (x : Option Addr) (len : Nat) (L : List Sp) : Prop :=
  L.length = len ∧ (∀ y ∈ L, (-9223372036854775808 ≤ y.p ∧ y.p ≤ 9223372036854775807) ∧ (y.s.size : Int) ≤ 9223372036854775807) ∧ (L = [] ∨ ∃ b off, x = some ⟨b, off, none⟩ ∧ b < w.heap.size ∧ ∀ (i : Nat) (y : Sp), L[i]? = some y →
    w.cell? ⟨b, off + 4 * i, none⟩ = some (.int .i64 y.p) ∧ w.cell? ⟨b, off + 4 * i + 1, none⟩ = some (.int .i64 y.n) ∧ w.cell? ⟨b, off + 4 * i + 2, none⟩ = some (.int .i64 y.r) ∧ w.cell? ⟨b, off + 4 * i + 3, none⟩ = some (.string y.s))
theorem SpansAt.below {w w1 : World} {x : Option Addr} {len n : Nat} {L : List Sp} (h : SpansAt w x len L) (hb : Below n w w1) (hn : w.heap.size ≤ n) : SpansAt w1 x len L := by
  obtain ⟨h1, h2, h3⟩ := h
  refine ⟨h1, h2, ?_⟩
  rcases h3 with h3 | ⟨b, off, ha, hlt, hc⟩
  · exact .inl h3
  · refine .inr ⟨b, off, ha, by have := hb.size; omega, fun i y hy => ?_⟩
    obtain ⟨c0, c1, c2, c3⟩ := hc i y hy
    have hl : b < n := by omega
    rw [hb.cell (p := ⟨b, off + 4 * i, none⟩) hl, hb.cell (p := ⟨b, off + 4 * i + 1, none⟩) hl, hb.cell (p := ⟨b, off + 4 * i + 2, none⟩) hl, hb.cell (p := ⟨b, off + 4 * i + 3, none⟩) hl]
    exact ⟨c0, c1, c2, c3⟩
theorem ix_span (b off len cap k : Nat) (h : k < len) (W : World) : (Instr.indexAt 22 (.slice (some ⟨b, off, none⟩) len cap) (.int .i64 k)).run Try.prog W = .ok (.pointer (some ⟨b, off + 4 * k, none⟩)) W := by
  have s1 : ∀ W, (sizeOf 68).run Try.prog W = .ok 4 W := fun W => by kernel_rfl
  simp [Instr.indexAt, run_underlying Try.underlying22, s1, go_sem, h]
set_option maxRecDepth 8000 in
theorem Load_any {B : Nat} {m : Mm} {w : World} (h : PAt w B m) (x : Option Addr) (len cap : Nat) (L : List Sp) (hs : SpansAt w x len L) (hlen : len ≤ 9223372036854775807) :
    Calls Try.prog 21 #[mp B, .slice x len cap] w fun e w' => e = .returned (.int .i64 (imgE (loadL L Mm.new))) ∧ PAt w' B ((loadL L Mm.new).getD m) ∧ But [B] w.heap.size w w' := by
  generalize hR : loadL L Mm.new = R
  have hR' := hid hR
  clear hR
  have hB := h.lt
  go_enter Try.func21, Try.ntmps21
  go_wp2_with fail
  refine (New_any _).mono ?_
  rintro e w1 ⟨rfl, h1, k1⟩
  go_wp2_with fail
  go_loopw [11] (fun ii W => ∃ (k : Nat) (mm : Mm), k ≤ len ∧ ii = .int .i64 k ∧ PAt W w.heap.size mm ∧ mm.ok ∧ Below w.heap.size w W ∧ Hid (loadL (L.drop k) mm = R)) (fun ii _ => (len - intOf ii).toNat)
  case atStart => exact ⟨0, Mm.new, by omega, rfl, h1, new_okM, k1, hR'⟩
  case round =>
    obtain ⟨k, mm, hk, rfl, hp, ok, kb, hr⟩ := hrel
    by_cases hlt : k < len
    · obtain ⟨hl, hrg, h3⟩ := hs.below kb (Nat.le_refl _)
      rcases h3 with h3 | ⟨b, off, rfl, hbl, hc⟩
      · subst h3; simp at hl; omega
      · have hkl : k < L.length := by omega
        have hgk : L[k]? = some L[k] := List.getElem?_eq_getElem hkl
        have hd : L.drop k = L[k] :: L.drop (k + 1) := List.drop_eq_getElem_cons hkl
        obtain ⟨c0, c1, c2, c3⟩ := hc k _ hgk
        obtain ⟨rp, rs⟩ := hrg _ (List.mem_of_getElem? hgk)
        rw [hd] at hr
        generalize L[k] = y at *
        generalize hL2 : L.drop (k + 1) = L2 at *
        have hL2' := hid hL2
        clear hc hrg hd hgk hL2
        have hix := ix_span b off len cap k hlt
        generalize off + 4 * k = o at *
        have hlw := hp.lt
        have S0 : ∀ j v, #[Value.int .i64 y.p, .int .i64 y.n, .int .i64 y.r, .string y.s][j]? = some v → (wr.alloc (.cells #[.int .i64 y.p, .int .i64 y.n, .int .i64 y.r, .string y.s] 68)).cell? ⟨wr.heap.size, j, none⟩ = some v := fun j v hv => by rw [World.cell?_alloc_new]; exact hv
        have ka := kb.alloc (by omega) (.cells #[.int .i64 y.p, .int .i64 y.n, .int .i64 y.r, .string y.s] 68)
        have za : (wr.alloc (.cells #[.int .i64 y.p, .int .i64 y.n, .int .i64 y.r, .string y.s] 68)).heap.size = wr.heap.size + 1 := by simp
        have q := Map_any (hp.alloc (.cells #[.int .i64 y.p, .int .i64 y.n, .int .i64 y.r, .string y.s] 68)) y.p y.n y.r rp
        go_wp2_with fail
        generalize wr.alloc (.cells #[.int .i64 y.p, .int .i64 y.n, .int .i64 y.r, .string y.s] 68) = wa at *
        refine q.mono ?_
        rintro e w2 ⟨rfl, h2, k2⟩
        have hsame : w2.heap[wr.heap.size]? = wa.heap[wr.heap.size]? := k2.block _ (by omega) (by simp; omega)
        have up : ∀ j v, #[Value.int .i64 y.p, .int .i64 y.n, .int .i64 y.r, .string y.s][j]? = some v → w2.cell? ⟨wr.heap.size, j, none⟩ = some v := fun j v hv => by
          have := S0 j v hv
          simp only [World.cell?, hsame] at this ⊢; exact this
        have d0 : w2.cell? ⟨wr.heap.size, 0, none⟩ = some (.int .i64 y.p) := up 0 _ rfl
        have d1 : w2.cell? ⟨wr.heap.size, 1, none⟩ = some (.int .i64 y.n) := up 1 _ rfl
        have d3 : w2.cell? ⟨wr.heap.size, 3, none⟩ = some (.string y.s) := up 3 _ rfl
        have k3 := ka.trans (k2.below (show w.heap.size ≤ wa.heap.size by omega) (by simp))
        clear q S0 up hsame c0 c1 c2 c3 hix ka k2 hp kb
        have hr2 : Hid ((if spE mm y = true then loadL L2 (spS mm y) else none) = R) := hr
        clear hr
        cases hm : mapE mm y.p y.n y.r with
        | false =>
          have hN : Hid (R = none) := hid (by rw [← hr2.out]; unfold spE; rw [hm]; rfl)
          rw [show errM false = 61 from rfl]
          clear hm
          go_wp2_with fail
          go_ret
          rw [hN.out]
          exact ⟨rfl, h.below k3 hB, But.of k3 _⟩
        | true =>
          have hin := hm
          unfold mapE at hin
          rw [Bool.and_eq_true, are_iff, can_iff] at hin
          obtain ⟨-, ⟨p0, p1, n0, n1⟩, -⟩ := hin
          rw [show errM true = 0 from rfl]
          by_cases hsz : (y.s.size : Int) ≤ y.n * 256
          · have hY : Hid (loadL L2 (spS mm y) = R) := hid (by rw [← hr2.out]; unfold spE; rw [hm, decide_eq_true hsz]; rfl)
            have okY := spS_ok ok y (by unfold spE; rw [hm, decide_eq_true hsz]; rfl)
            have hsY : spS mm y = putB (mapS mm y.p y.n y.r) (y.p.toNat * 256) (bytesZ y.s) := rfl
            clear hm hr2
            generalize spS mm y = mY at *
            generalize mapS mm y.p y.n y.r = m2 at *
            obtain ⟨P, hP⟩ := Int.eq_ofNat_of_zero_le p0
            rw [hP] at d0 hsY n1 p1 rp p0
            rw [Int.toNat_natCast] at hsY
            have hcut := cutL .i64 w.heap.size (P * 256) (by omega)
            rw [show ((P * 256 : Nat) : Int) = (P : Int) * 256 by omega] at hcut
            obtain ⟨cs, hb, hcs⟩ := h2.blk
            have hcp := fun ty => Lib.run_copy_row_string (P := Try.prog) w2.drew 74 9 ty 5 w.heap.size (64 + P * 256) (16384 - P * 256) (16384 - P * 256) y.s cs 78 (by kernel_rfl) (by kernel_rfl) (show w2.drew.heap[w.heap.size]? = _ from hb) (by omega) (by rw [hcs.size]; omega)
            rw [bytesZ_cells] at hcp
            have hx := MAt.put h2.drew cs hb hcs (P * 256) (bytesZ y.s) (by rw [bytesZ_len]; omega) ((bytesZ y.s).map (Value.int .u8)) rfl
            rw [show ((bytesZ y.s).map (Value.int .u8)).length = y.s.size by rw [List.length_map, bytesZ_len], ← hsY] at hx
            have kx := (But.of k3 [w.heap.size]).drew.setRow (g := w.heap.size) (by simp) (cs.toList.take (64 + P * 256) ++ (bytesZ y.s).map (Value.int .u8) ++ cs.toList.drop (64 + P * 256 + y.s.size)).toArray
            generalize (cs.toList.take (64 + P * 256) ++ (bytesZ y.s).map (Value.int .u8) ++ cs.toList.drop (64 + P * 256 + y.s.size)).toArray = row at *
            replace kx := kx.below (Nat.le_refl _) (by simp)
            clear hsY hb hcs h2
            rw [hP]
            go_wp2_with fail
            go_region
            go_wp2_with fail
            go_roundw
            case rel => exact ⟨k + 1, mY, by omega, by go_num, hx, okY, kx, by rw [hL2'.out]; exact hY⟩
            case measure => simp [intOf]; omega
          · have hN : Hid (R = none) := hid (by rw [← hr2.out]; unfold spE; rw [hm, decide_eq_false hsz]; rfl)
            clear hm
            go_wp2_with fail
            go_ret
            rw [hN.out]
            exact ⟨rfl, h.below k3 hB, But.of k3 _⟩
    · obtain rfl : k = len := by omega
      have hN : Hid (R = some mm) := hid (by rw [← hr.out, List.drop_eq_nil_of_le (by rw [hs.1]; exact Nat.le_refl _)]; rfl)
      clear hr hR'
      obtain ⟨cs, hb, hc⟩ := hp.blk
      obtain ⟨cs0, hb0, hc0⟩ := (h.below kb hB).blk
      have hsz : (Try.prog.info? 78).map (·.size) = some cs.size := by rw [hc.size]; kernel_rfl
      have hz : cs0.size = cs.size := hc0.size.trans hc.size.symm
      have h1 := hc.one
      have hx : PAt (wr.setRow B cs) B mm := ⟨cs, setRow_heap _ _ _ _ _ _ hb0, hc⟩
      have kx := (But.of kb [B]).setRow (g := B) (by simp) cs
      clear hc hc0 ok kb hp
      go_wp2_with (first | refine wpList_load_row rfl 78 _ rfl w.heap.size rfl 78 cs (0, 0) _ hb Try.underlying78 rfl hsz ?_ | refine wpList_store_row rfl 78 _ _ rfl B cs rfl rfl 78 cs0 hb0 hsz hz h1 ?_)
      go_ret
      rw [hN.out]
      exact ⟨rfl, hx, kx⟩
end Go.Proofs.Ytmlaancmacipoaa
