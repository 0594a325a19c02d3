/- The document's memory: Load. -/
import Derived.Test.YtmlaancmacipoaaR5
namespace Go.Proofs.Ytmlaancmacipoaa
open Go.RowKit
set_option linter.unusedVariables false
set_option linter.unusedSimpArgs false
set_option linter.unusedSectionVars false

theorem chk_ref : chkM (some (.agg (zcells Try.prog 64))) = true := by kernel_rfl
theorem zero_ref : ∃ Z : Array Value, (∀ w, (zeroValue 64).run Try.prog w = .ok (.agg Z) w) ∧ MC Z Mm.new ∧ Z ≠ #[] :=
  ⟨zcells Try.prog 64, fun w => by kernel_rfl, chk_mem chk_ref, fun h => by have := (chk_mem chk_ref).size; rw [h] at this; cases this⟩
theorem ixS (s : ByteArray) (k : Nat) (h : k < s.size) (W : World) : (Instr.index 9 (.string s) (.int .i64 (k : Int))).run Try.prog W = .ok (.int .u8 ((bytesZ s).getD k 0)) W := by
  have hk : k < s.data.size := h
  have e : (bytesZ s).getD k 0 = (s.data[k].toNat : Int) := by
    unfold bytesZ
    rw [List.getD_eq_getElem?_getD, List.getElem?_map, Array.getElem?_toList, Array.getElem?_eq_getElem hk]
    rfl
  rw [e]
  simp [Instr.index, run_underlying Try.underlying9, go_sem, h]
  rfl
set_option maxHeartbeats 1000000 in
set_option maxRecDepth 8000 in
theorem rLoad {R : Nat} {m : Mm} {w : World} (h : RAt w R m) (x : Option Addr) (len cap : Nat) (L : List Sp) (hs : SpansAt w x len L) (hlen : len ≤ 9223372036854775807) :
    Calls Try.prog 22 #[mp R, .slice x len cap] w fun e w' => e = .returned (.int .i64 (imgE (loadL L Mm.new))) ∧ RAt w' R ((loadL L Mm.new).getD m) ∧ But [R] w.heap.size w w' := by
  generalize hR : loadL L Mm.new = V
  have hR' := hid hR
  clear hR
  have hB := h.lt
  obtain ⟨Z, hZ, hcZ, hne⟩ := zero_ref
  have hx1 : RAt (w.alloc (.cells Z 64)) w.heap.size Mm.new := ⟨_, alloc_new _ _, hcZ⟩
  have kx1 : Below w.heap.size w (w.alloc (.cells Z 64)) := (Below.refl _ _).alloc (Nat.le_refl _) _
  go_enter Try.func22, Try.ntmps22
  go_wp2_with fail
  generalize w.alloc (.cells Z 64) = w1 at *
  clear hZ hcZ hne
  go_loopw [6] (fun ii W => ∃ (k : Nat) (mm : Mm), k ≤ len ∧ ii = .int .i64 k ∧ RAt W w.heap.size mm ∧ mm.ok ∧ Below w.heap.size w W ∧ Hid (loadL (L.drop k) mm = V)) (fun ii _ => (len - intOf ii).toNat)
  case atStart => exact ⟨0, Mm.new, by omega, rfl, hx1, new_okM, kx1, hR'⟩
  case round =>
    obtain ⟨k, mm, hk, rfl, hp, ok, kb, hr⟩ := hrel
    by_cases hlt : k < len
    · obtain ⟨hl, hrg, h3⟩ := hs.below kb (Nat.le_refl _)
      rcases h3 with h3 | ⟨b, off, rfl, hbl, hc⟩
      · subst h3; simp at hl; omega
      · have hkl : k < L.length := by omega
        have hgk : L[k]? = some L[k] := List.getElem?_eq_getElem hkl
        have hd : L.drop k = L[k] :: L.drop (k + 1) := List.drop_eq_getElem_cons hkl
        obtain ⟨c0, c1, c2, c3⟩ := hc k _ hgk
        obtain ⟨rp, rs⟩ := hrg _ (List.mem_of_getElem? hgk)
        rw [hd] at hr
        generalize L[k] = y at *
        generalize hL2 : L.drop (k + 1) = L2 at *
        have hL2' := hid hL2
        clear hc hrg hd hgk hL2
        have hix := ix_span b off len cap k hlt
        generalize off + 4 * k = o at *
        have hlw := hp.lt
        have S0 : ∀ j v, #[Value.int .i64 y.p, .int .i64 y.n, .int .i64 y.r, .string y.s][j]? = some v → (wr.alloc (.cells #[.int .i64 y.p, .int .i64 y.n, .int .i64 y.r, .string y.s] 68)).cell? ⟨wr.heap.size, j, none⟩ = some v := fun j v hv => by rw [World.cell?_alloc_new]; exact hv
        have ka := kb.alloc (by omega) (.cells #[.int .i64 y.p, .int .i64 y.n, .int .i64 y.r, .string y.s] 68)
        have za : (wr.alloc (.cells #[.int .i64 y.p, .int .i64 y.n, .int .i64 y.r, .string y.s] 68)).heap.size = wr.heap.size + 1 := by simp
        have q := rMap (hp.alloc (.cells #[.int .i64 y.p, .int .i64 y.n, .int .i64 y.r, .string y.s] 68)) ok y.p y.n y.r rp
        go_wp2_with fail
        generalize hSb : wr.heap.size = Sb at *
        generalize wr.alloc (.cells #[.int .i64 y.p, .int .i64 y.n, .int .i64 y.r, .string y.s] 68) = wa at *
        refine q.mono ?_
        rintro e w2 ⟨rfl, h2, k2⟩
        have hsame : w2.heap[Sb]? = wa.heap[Sb]? := k2.block _ (by omega) (by simp; omega)
        have up : ∀ j v, #[Value.int .i64 y.p, .int .i64 y.n, .int .i64 y.r, .string y.s][j]? = some v → w2.cell? ⟨Sb, j, none⟩ = some v := fun j v hv => by
          have := S0 j v hv
          simp only [World.cell?, hsame] at this ⊢; exact this
        have d0 : w2.cell? ⟨Sb, 0, none⟩ = some (.int .i64 y.p) := up 0 _ rfl
        have d1 : w2.cell? ⟨Sb, 1, none⟩ = some (.int .i64 y.n) := up 1 _ rfl
        have d3 : w2.cell? ⟨Sb, 3, none⟩ = some (.string y.s) := up 3 _ rfl
        have k3 := ka.trans (k2.below (show w.heap.size ≤ wa.heap.size by omega) (by simp))
        clear q S0 up hsame c0 c1 c2 c3 hix ka k2 hp kb
        have hr2 : Hid ((if spE mm y = true then loadL L2 (spS mm y) else none) = V) := hr
        clear hr
        cases hm : mapE mm y.p y.n y.r with
        | false =>
          have hN : Hid (V = none) := hid (by rw [← hr2.out]; unfold spE; rw [hm]; rfl)
          rw [show errM false = 61 from rfl]
          clear hm
          go_wp2_with fail
          go_ret
          rw [hN.out]
          exact ⟨rfl, h.below k3 hB, But.of k3 _⟩
        | true =>
          have hin := hm
          unfold mapE at hin
          rw [Bool.and_eq_true, are_iff, can_iff] at hin
          obtain ⟨-, ⟨p0, p1, n0, n1⟩, -⟩ := hin
          rw [show errM true = 0 from rfl]
          by_cases hsz : (y.s.size : Int) ≤ y.n * 256
          · have hY : Hid (loadL L2 (spS mm y) = V) := hid (by rw [← hr2.out]; unfold spE; rw [hm, decide_eq_true hsz]; rfl)
            have okY := spS_ok ok y (by unfold spE; rw [hm, decide_eq_true hsz]; rfl)
            have hsY : spS mm y = putB (mapS mm y.p y.n y.r) (y.p.toNat * 256) (bytesZ y.s) := rfl
            clear hm hr2
            generalize spS mm y = mY at *
            generalize mapS mm y.p y.n y.r = m2 at *
            obtain ⟨P, hP⟩ := Int.eq_ofNat_of_zero_le p0
            rw [hP] at d0 hsY n1 p1 rp p0
            rw [Int.toNat_natCast] at hsY
            have hsY' := hid hsY
            clear hsY
            rw [hP]
            go_wp2_with fail
            go_loopw [8] (fun jj W => ∃ j : Nat, j ≤ y.s.size ∧ jj = .int .i64 j ∧ RAt W w.heap.size (putB m2 (P * 256) ((bytesZ y.s).take j)) ∧ But [w.heap.size] w2.heap.size w2 W) (fun jj _ => (y.s.size - intOf jj).toNat)
            case atStart => exact ⟨0, by omega, rfl, by rw [List.take_zero, putB_nil]; exact h2, But.refl _ _ _⟩
            case round =>
              clear h2
              obtain ⟨j, hj, rfl, h2, kj⟩ := hrel
              have hsame : wr.heap[Sb]? = w2.heap[Sb]? := kj.block _ (size_of_cell d0) (by simp; omega)
              have e0 : wr.cell? ⟨Sb, 0, none⟩ = some (.int .i64 (P : Int)) := by simp only [World.cell?, hsame] at d0 ⊢; exact d0
              have e3 : wr.cell? ⟨Sb, 3, none⟩ = some (.string y.s) := by simp only [World.cell?, hsame] at d3 ⊢; exact d3
              have hlz : (bytesZ y.s).length = y.s.size := bytesZ_len _
              by_cases hlj : j < y.s.size
              · have hcell := h2.b (P * 256 + j) (by omega)
                have hf := h2.fr (64 + (P * 256 + j))
                have hixb := ixB w.heap.size (P * 256 + j) (by omega) .i64
                rw [show ((P * 256 + j : Nat) : Int) = (P : Int) * 256 + j by omega] at hixb
                have hs3 := ixS y.s j hlj
                have hx2 : RAt (wr.setCell ⟨w.heap.size, 64 + (P * 256 + j), none⟩ (.int .u8 ((bytesZ y.s).getD j 0))) w.heap.size (putB m2 (P * 256) ((bytesZ y.s).take (j + 1))) := h2.set (64 + (P * 256 + j)) _ _ fun cs c => by
                  refine c.set_b (P * 256 + j) (by omega) _ _ rfl (fun i => ?_)
                  rw [putB_step m2 (P * 256) _ j (by omega)]
                have kx2 := kj.setCell (p := ⟨w.heap.size, 64 + (P * 256 + j), none⟩) (by simp) (.int .u8 ((bytesZ y.s).getD j 0))
                generalize (bytesZ y.s).getD j 0 = z at *
                generalize (putB m2 (P * 256) ((bytesZ y.s).take j)).b (P * 256 + j) = z0 at *
                replace hx2 := hx2.drew
                replace kx2 := kx2.drew
                clear h2 kj hsame d0 d1 d3
                go_wp2_with fail
                go_region
                generalize (wr.setCell ⟨w.heap.size, 64 + (P * 256 + j), none⟩ (.int .u8 z)).drew = w9 at *
                clear hcell hf hixb hs3 e0 e3
                go_wp2_with fail
                go_roundw
                case rel => exact ⟨j + 1, by omega, by go_num, hx2, kx2⟩
                case measure => simp [intOf]; omega
              · obtain rfl : j = y.s.size := by omega
                have hfull : (bytesZ y.s).take y.s.size = bytesZ y.s := List.take_of_length_le (by omega)
                rw [hfull, ← hsY'.out] at h2
                have kf := k3.trans (kj.below k3.size (by simp))
                clear kj hsame hfull hlz
                go_wp2_with fail
                go_roundw
                case rel => exact ⟨k + 1, mY, by omega, by go_num, h2, okY, kf, by rw [hL2'.out]; exact hY⟩
                case measure => simp [intOf]; omega
          · have hN : Hid (V = none) := hid (by rw [← hr2.out]; unfold spE; rw [hm, decide_eq_false hsz]; rfl)
            clear hm
            go_wp2_with fail
            go_ret
            rw [hN.out]
            exact ⟨rfl, h.below k3 hB, But.of k3 _⟩
    · obtain rfl : k = len := by omega
      have hN : Hid (V = some mm) := hid (by rw [← hr.out, List.drop_eq_nil_of_le (by rw [hs.1]; exact Nat.le_refl _)]; rfl)
      clear hr hR'
      obtain ⟨cs, hb, hc⟩ := hp.blk
      obtain ⟨cs0, hb0, hc0⟩ := (h.below kb hB).blk
      have hsz : (Try.prog.info? 64).map (·.size) = some cs.size := by rw [hc.size]; kernel_rfl
      have hz : cs0.size = cs.size := hc0.size.trans hc.size.symm
      have h1 := hc.one
      have hx : RAt (wr.setRow R cs) R mm := ⟨cs, setRow_heap _ _ _ _ _ _ hb0, hc⟩
      have kx := (But.of kb [R]).setRow (g := R) (by simp) cs
      clear hc hc0 ok kb hp
      go_wp2_with (first | refine wpList_load_row rfl 64 _ rfl w.heap.size rfl 64 cs (0, 0) _ hb Try.underlying64 rfl hsz ?_ | refine wpList_store_row rfl 64 _ _ rfl R cs rfl rfl 64 cs0 hb0 hsz hz h1 ?_)
      go_ret
      rw [hN.out]
      exact ⟨rfl, hx, kx⟩
end Go.Proofs.Ytmlaancmacipoaa
