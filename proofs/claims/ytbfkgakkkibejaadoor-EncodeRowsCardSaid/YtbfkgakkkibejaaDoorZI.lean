/- EncodeRows. -/
import Derived.Test.YtbfkgakkkibejaaDoorZW
import Derived.Test.YtbfkgakkkibejaaDoorZH
import Derived.Deep.CutRange
import Derived.Deep.RegionHeld
import Derived.Deep.RegionHeld3
namespace Go.Proofs.YtbfkgakkkibejaaDoor
open Go.RowKit
set_option linter.unusedVariables false
set_option linter.unusedSimpArgs false
set_option linter.unusedSectionVars false

theorem lt_cell' {w : World} {b o : Nat} {v : Value} (h : w.cell? ⟨b, o, none⟩ = some v) : b < w.heap.size := by
  by_cases hb : b < w.heap.size
  · exact hb
  · have : w.heap[b]? = none := Array.getElem?_eq_none (by omega)
    simp [World.cell?, this] at h
theorem run_load_mid {P : Program} {ev : Operand → Value} {o : Oper} {w : World} {ty : TypeId} {x : Operand} (ho : o.op = .load ty x) {b off : Nat} (hx : ev x = .pointer (some ⟨b, off, none⟩)) (cs : List Value) (d : TypeDesc)
    (hc : w.rangeAt b off cs) (hu : P.underlying ty = some d) (hd : d.isRow = true) (hi : (P.info? ty).map (·.size) = some cs.length) :
    (execOp ev o).run P w = .ok (.value (.agg cs.toArray)) w := by
  unfold execOp
  simp only [ho, hx, run_loadAt_mid w b off ty cs d hc hu hd hi, Sem.run_bind, Sem.run_pure, Result.andThen_ok]
theorem run_load_inm {ev : Operand → Value} {o : Oper} {w : World} {x : Operand} (ho : o.op = .load 26 x) {b off : Nat} (hx : ev x = .pointer (some ⟨b, off, none⟩)) (k : In) (hc : w.rangeAt b off (in16 k).toList) :
    (execOp ev o).run Tryd.prog w = .ok (.value (inV k)) w := by
  have h := run_load_mid (P := Tryd.prog) ho hx (in16 k).toList _ hc Tryd.underlying26 rfl (by kernel_rfl)
  simpa using h
theorem range_below {W W' : World} {g o : Nat} {cs : List Value} (h : W.rangeAt g o cs) (b : Below W.heap.size W W') : W'.rangeAt g o cs := fun j u hu => by
  have := h j u hu
  have hg := lt_cell' this
  simp only [World.cell?, b.block g hg] at this ⊢
  exact this
theorem rows_take (ks : List In) {n : Nat} {k : In} (h : ks[n]? = some k) (hk : isE k = true) : ((flatE (ks.take (n + 1))).length : Int) = ((flatE (ks.take n)).length : Int) + lenE k := by
  rw [flat_take ks h, List.length_append]
  unfold lenE
  rw [if_pos hk]
  omega
theorem cutFrom (b off len cap k : Nat) (hk : k < len) (hl : len ≤ cap) (W : World) : (Instr.slice 28 (.slice (some ⟨b, off, none⟩) len cap) (some (.int .i64 (k : Int))) none none).run Tryd.prog W = .ok (.slice (some ⟨b, off + k, none⟩) (len - k) (cap - k)) W := by
  have h1 : k ≤ len := by omega
  have h2 : k ≤ cap := by omega
  have h3 : ¬ (cap - k = 0) := by omega
  have h4 : (k : Int) ≤ (len : Int) := by omega
  have h5 : len ≤ cap := hl
  have e : (⟨b, off, none⟩ : Addr).add k = ⟨b, off + k, none⟩ := by unfold Addr.add; split <;> simp_all
  simp [Instr.slice, go_sem, h1, h2, h3, h4, h5, e]
  intro h; omega
theorem Ba.drop {w : World} {g off n c : Nat} {zs : List Int} (h : Ba w (some ⟨g, off, none⟩) n c zs) (k : Nat) (hk : k < n) : Ba w (some ⟨g, off + k, none⟩) (n - k) (c - k) (zs.drop k) := by
  obtain ⟨⟨h1, h2, h3⟩, h4, h5, h6⟩ := h
  refine ⟨⟨by rw [List.length_drop]; omega, fun z hz => h2 z (List.mem_of_mem_drop hz), ?_⟩, by omega, by omega, fun e => by cases e⟩
  rcases h3 with rfl | ⟨b', off', e, hlt, hc⟩
  · simp at h1; omega
  · simp only [Option.some.injEq, Addr.mk.injEq, and_true] at e
    obtain ⟨rfl, rfl⟩ := e
    refine .inr ⟨g, off + k, rfl, hlt, fun i hi => ?_⟩
    rw [Nat.add_assoc, hc (k + i) (by omega)]
    simp [List.getD_eq_getElem?_getD, List.getElem?_drop]
theorem flat_drop (ks : List In) {n : Nat} {k : In} (h : ks[n]? = some k) : (flatE ks).drop (flatE (ks.take n)).length = encM k ++ flatE (ks.drop (n + 1)) := by
  have hlt := (List.getElem?_eq_some_iff.1 h).1
  have e : ks = ks.take n ++ k :: ks.drop (n + 1) := by
    have h1 : ks.drop n = k :: ks.drop (n + 1) := by
      rw [List.drop_eq_getElem_cons hlt]
      congr 1
      exact (List.getElem?_eq_some_iff.1 h).2
    rw [← h1, List.take_append_drop]
  have e2 : flatE ks = flatE (ks.take n) ++ (encM k ++ flatE (ks.drop (n + 1))) := by
    conv => lhs; rw [e]
    unfold flatE
    rw [List.flatMap_append, List.flatMap_cons]
  rw [e2, List.drop_left]
set_option maxRecDepth 20000 in
theorem rows_far {w : World} {v : Value} {ks : List In} (hI : Il w v ks) (tabs : Tabs w) (hn : (12 : Int) < (ks.length : Int)) : Calls Tryd.prog 5 #[v] w fun e w' => e = .returned (.bool true) ∧ Below w.heap.size w w' := by
  have hK := Lib.hid (known_any w tabs)
  obtain ⟨a, c, rfl, hr⟩ := hI
  go_enter Tryd.func5, Tryd.ntmps5
  go_wp2_with ((with_reducible refine hK.out.mono ?_); rintro e W1 ⟨rfl, b1⟩)
  go_ret
  exact ⟨rfl, b1⟩
set_option maxRecDepth 20000 in
set_option maxHeartbeats 8000000 in
theorem rows_any {w : World} {v : Value} {ks : List In} (hI : Il w v ks) (hks : ∀ k ∈ ks, Wd k) (tabs : Tabs w) (hn : ¬ (12 : Int) < (ks.length : Int)) : Calls Tryd.prog 5 #[v] w fun e w' => e = .returned (.bool true) ∧ Below w.heap.size w w' := by
  have hK := Lib.hid (known_any w tabs)
  have hA0 := Lib.hid (fun W (b : Below w.heap.size w W) => All_any (hI.below b) hks (by omega) (tabs.below b))
  obtain ⟨a, c, rfl, hr⟩ := hI
  go_enter Tryd.func5, Tryd.ntmps5
  go_upto_region 6 with (first | ((with_reducible refine hK.out.mono ?_); rintro e W1 ⟨rfl, b1⟩) | ((with_reducible refine (hA0.out _ b1).mono ?_); rintro e W2 ⟨u, x, rfl, hux, b2⟩))
  have b12 := b1.trans (b2.mono b1.size)
  clear hK hA0
  have hLen := Lib.hid (fun k (hk : k ∈ ks) W (b : Below w.heap.size w W) => Len_any (hks k hk) W (tabs.below b))
  rcases hux with ⟨rfl, hall, hO⟩ | ⟨rfl, rfl, kx, hkx, hbad⟩
  · obtain ⟨ua, uc, rfl, hU⟩ := hO.ba
    have hFl := flat_bd ks hks hall
    have hF12 : (flatE ks).length ≤ 144 := by omega
    have hsome : 0 < ks.length → ∃ g2, ua = some ⟨g2, 0, none⟩ := fun hp => by
      obtain ⟨-, -, h | ⟨g2, cap, cur, e, -⟩⟩ := hO
      · exfalso
        have h0 := h.2
        obtain ⟨q, ks', hq⟩ := List.exists_cons_of_length_pos hp
        have h1 := (enc_read (k := withLen q 0) (hall q (by rw [hq]; simp)) (hks q (by rw [hq]; simp)).A (hks q (by rw [hq]; simp)).B []).2.1
        have e : flatE ks = encM q ++ flatE ks' := by rw [hq]; unfold flatE; rw [List.flatMap_cons]
        rw [e, List.length_append] at h0
        have e2 : encM (withLen q 0) = encM q := rfl
        rw [e2] at h1
        omega
      · simp only [Value.slice.injEq] at e
        exact ⟨g2, e.1⟩
    have HALL := Lib.hid hall
    have hdr := Lib.hid (fun n k (h : ks[n]? = some k) => flat_drop ks h)
    have hall_len := Lib.hid (fun n => show (flatE (ks.take n)).length ≤ (flatE ks).length by
      have e : flatE ks = flatE (ks.take n) ++ flatE (ks.drop n) := by unfold flatE; rw [← List.flatMap_append, List.take_append_drop]
      rw [e, List.length_append]; omega)
    clear hall hFl hO
    generalize hff : flatE ks = FL at *
    have HFF := Lib.hid hff
    clear hff
    go_wp2_with fail
    go_loopw [5, 6] (fun ss ii W => ∃ n s : Nat, n ≤ ks.length ∧ ii = .int .i64 n ∧ ss = .int .i64 s ∧ RowKit.Hid ((flatE (ks.take n)).length = s) ∧ Below W2.heap.size W2 W) (fun _ ii _ => ks.length - (intOf ii).toNat)
    case atStart => exact ⟨0, 0, by omega, rfl, rfl, Lib.hid (by simp [flatE]), Below.refl _ _⟩
    case round =>
      obtain ⟨n, s, hn2, rfl, rfl, hs, b3⟩ := hrel
      have b := b12.trans (b3.mono b12.size)
      by_cases hlt : n < ks.length
      · have h1 : ((n : Int) < (ks.length : Int)) = True := eq_true (by omega)
        have hwr : IntKind.i64.wrap ((n : Int) + 1) = (n : Int) + 1 := by rw [IntKind.wrap_i64]; omega
        obtain ⟨k, hk⟩ : ∃ k, ks[n]? = some k := ⟨ks[n], List.getElem?_eq_getElem hlt⟩
        have hmem : k ∈ ks := List.mem_of_getElem? hk
        obtain hr | ⟨g, off, rfl, hg, hr⟩ := hr
        · rw [hr] at hlt; exact absurd hlt (by simp)
        have hR : wr.rangeAt g (off + n * 16) (in16 k).toList := fun j u hu => by
          have := hr n k hk j u hu
          simp only [World.cell?, b.block g hg] at this ⊢
          exact this
        have hi := HALL.out k hmem
        have hL0 := hLen.out k hmem
        have hst := rows_take ks hk hi
        have hnx := hall_len.out (n + 1)
        have hp : (lenE k == 0) = false := by
          have := (enc_read (k := withLen k 0) hi (hks k hmem).A (hks k hmem).B []).2.1
          have e : encM (withLen k 0) = encM k := rfl
          rw [e] at this
          unfold lenE; rw [if_pos hi, beq_eq_false_iff_ne]
          omega
        rw [hs.out] at hst
        have hlk : ∃ l : Nat, lenE k = (l : Int) := by unfold lenE; rw [if_pos hi]; exact ⟨_, rfl⟩
        obtain ⟨l, hl⟩ := hlk
        rw [hl] at hst hp hL0
        have hws : IntKind.i64.wrap ((s : Int) + (l : Int)) = ((s + l : Nat) : Int) := by rw [IntKind.wrap_i64]; omega
        have hws2 : wrap64 ((s : Int) + (l : Int)) = ((s + l : Nat) : Int) := by unfold wrap64; omega
        have HN := Lib.hid (show (flatE (ks.take (n + 1))).length = s + l by omega)
        have hL := Lib.hid hL0
        clear hL0 hi hst hnx hl hr
        go_wp2_with (first | (with_reducible refine load_in_mid rfl _ rfl g (off + n * 16) k rfl hR ?_) | ((with_reducible refine (hL.out _ b).mono ?_); rintro e W4 ⟨rfl, b5⟩; have b6 := b.trans (b5.mono b.size); have hR2 : W4.rangeAt g (off + n * 16) (in16 k).toList := range_below hR b5) | (with_reducible refine load_in_mid rfl _ rfl g (off + n * 16) k rfl hR2 ?_) | ((with_reducible refine (hL.out _ b6).mono ?_); rintro e W5 ⟨rfl, b7⟩))
        go_roundw
        case rel => exact ⟨n + 1, s + l, by omega, by go_num, by go_num, HN, b3.trans ((b5.trans (b7.mono b5.size)).mono b3.size)⟩
        case measure => simp [intOf]; omega
      · have h1 : ((n : Int) < (ks.length : Int)) = False := eq_false (by omega)
        obtain rfl : n = ks.length := by omega
        have hs2 := hs.out
        rw [List.take_length, HFF.out] at hs2
        subst hs2
        go_wp2_with fail
        go_loopw [7, 8] (fun ss ii W => ∃ n s : Nat, n ≤ ks.length ∧ ii = .int .i64 n ∧ ss = .int .i64 s ∧ RowKit.Hid ((flatE (ks.take n)).length = s) ∧ Below W2.heap.size W2 W) (fun _ ii _ => ks.length - (intOf ii).toNat)
        case atStart => exact ⟨0, 0, by omega, rfl, rfl, Lib.hid (by simp [flatE]), b3⟩
        case round =>
          obtain ⟨n, s, hn2, rfl, rfl, hs, b4⟩ := hrel
          have b := b12.trans (b4.mono b12.size)
          by_cases hlt : n < ks.length
          · have h1 : ((n : Int) < (ks.length : Int)) = True := eq_true (by omega)
            have hwr : IntKind.i64.wrap ((n : Int) + 1) = (n : Int) + 1 := by rw [IntKind.wrap_i64]; omega
            obtain ⟨k, hk⟩ : ∃ k, ks[n]? = some k := ⟨ks[n], List.getElem?_eq_getElem hlt⟩
            have hmem : k ∈ ks := List.mem_of_getElem? hk
            obtain hr | ⟨g, off, rfl, hg, hr⟩ := hr
            · rw [hr] at hlt; exact absurd hlt (by simp)
            have hR : wr.rangeAt g (off + n * 16) (in16 k).toList := fun j u hu => by
              have := hr n k hk j u hu
              simp only [World.cell?, b.block g hg] at this ⊢
              exact this
            obtain ⟨g2, rfl⟩ := hsome (by omega)
            have hi := HALL.out k hmem
            have hL0 := hLen.out k hmem
            have hst := rows_take ks hk hi
            have hnx := hall_len.out (n + 1)
            have hread := enc_read (k := withLen k 0) hi (hks k hmem).A (hks k hmem).B (flatE (ks.drop (n + 1)))
            rw [show encM (withLen k 0) = encM k from rfl] at hread
            have hd0 := hdr.out n k hk
            rw [hs.out] at hst hd0
            obtain ⟨l, hl⟩ : ∃ l : Nat, (encM k).length = l := ⟨_, rfl⟩
            have hle : lenE k = (l : Int) := by unfold lenE; rw [if_pos hi, hl]
            rw [hl] at hread
            rw [hle] at hst hL0
            obtain ⟨j, hj⟩ : ∃ j : In, j = ⟨k.op, k.c, k.A, k.B, k.rep, (l : Int)⟩ := ⟨_, rfl⟩
            have hdj : decI (FL.drop s) = j ∧ decE (FL.drop s) = 0 ∧ j.len = (l : Int) := by
              have h : decM (FL.drop s) = .ok j := by rw [hd0, hj]; exact hread.1
              exact ⟨by unfold decI; rw [h], by unfold decE; rw [h], by rw [hj]⟩
            have hS := Lib.hid (fun W => RSame_any j k W)
            rw [show sameI (withLen j 0) (withLen k 0) = true by rw [hj, sameI_iff]; rfl] at hS
            have hsl : s < FL.length := by have := hread.2.1; omega
            have hU4 := hU.below b4
            have hcut := cutFrom g2 0 FL.length uc s hsl hU4.lc
            have hA2 := hU4.drop s hsl
            rw [Nat.zero_add] at hA2
            simp only [Nat.zero_add] at hcut
            have hws : IntKind.i64.wrap ((s : Int) + (l : Int)) = ((s + l : Nat) : Int) := by rw [IntKind.wrap_i64]; omega
            have hws2 : wrap64 ((s : Int) + (l : Int)) = ((s + l : Nat) : Int) := by unfold wrap64; omega
            have HN := Lib.hid (show (flatE (ks.take (n + 1))).length = s + l by omega)
            have hD := Lib.hid (Decode_ba2 hA2 (tabs.below b) hdj)
            have hL := Lib.hid hL0
            have hlo : ((s : Nat) : Int) ≤ (FL.length : Int) := Int.ofNat_le.2 (Nat.le_of_lt hsl)
            clear hL0 hi hst hnx hl hr hread hd0 hle hj hdj
            generalize FL.drop s = Z at *
            go_upto_region 20 with (first | ((with_reducible refine hD.out.mono ?_); rintro e W4 ⟨rfl, b5⟩) | ((with_reducible refine store_in_as rfl _ _ rfl (in16 j) (in16_size _) (in16_one _) rfl rfl ?_); intro W5 kJ b6))
            have b56 := b5.trans (b6.mono b5.size)
            have b06 := b.trans (b56.mono b.size)
            have hR5 := range_below hR b56
            have b6d := b06.trans (drew_below W5 b06.size)
            have hRd := range_below hR5 (drew_below W5 (Nat.le_refl _))
            generalize W4.heap.size = BJ at *
            refine wp_region_held_drew (S := fun W => Blk W BJ 26 (in16 j) ∧ W.rangeAt g (off + n * 16) (in16 k).toList) (by kernel_rfl) ⟨kJ.drew, hRd⟩ (fun hHeld => ?_)
            refine wpAnyH_take (i := 0) (v := ?_) rfl (by kernel_rfl) (by kernel_rfl) (by kernel_rfl) (fun _ _ _ h => h) (Or.inl ⟨by kernel_rfl, ?_⟩) hHeld ?_
            rotate_left
            · intro W hS
              go_simp
              try rfl
            simp only [Act.put, List.setIfInBounds_toArray, List.set_cons_zero, List.set_cons_succ, List.getElem_toArray, List.getElem_cons_succ, List.getElem_cons_zero]
            refine wpAnyH_take (i := 1) (v := ?_) rfl (by kernel_rfl) (by kernel_rfl) (by kernel_rfl) (fun _ _ _ h => h) (Or.inl ⟨by kernel_rfl, ?_⟩) hHeld ?_
            rotate_left
            · intro W hS
              go_simp
              try rfl
            simp only [Act.put, List.setIfInBounds_toArray, List.set_cons_zero, List.set_cons_succ, List.getElem_toArray, List.getElem_cons_succ, List.getElem_cons_zero]
            refine wpAnyH_take (i := 2) (v := ?_) rfl (by kernel_rfl) (by kernel_rfl) (by kernel_rfl) (fun _ _ _ h => h) (Or.inl ⟨by kernel_rfl, ?_⟩) hHeld ?_
            rotate_left
            · intro W hS
              go_simp
              try rfl
            simp only [Act.put, List.setIfInBounds_toArray, List.set_cons_zero, List.set_cons_succ, List.getElem_toArray, List.getElem_cons_succ, List.getElem_cons_zero]
            refine wpAnyH_take (i := 3) (v := ?_) rfl (by kernel_rfl) (by kernel_rfl) (by kernel_rfl) (fun _ _ _ h => h) (Or.inl ⟨by kernel_rfl, ?_⟩) hHeld ?_
            rotate_left
            · intro W hS
              go_simp
              try rfl
            simp only [Act.put, List.setIfInBounds_toArray, List.set_cons_zero, List.set_cons_succ, List.getElem_toArray, List.getElem_cons_succ, List.getElem_cons_zero]
            refine wpAnyH_take (i := 4) (v := ?_) rfl (by kernel_rfl) (by kernel_rfl) (by kernel_rfl) (fun _ _ _ h => h) (Or.inl ⟨by kernel_rfl, ?_⟩) hHeld ?_
            rotate_left
            · intro W hS
              go_simp
              try rfl
            simp only [Act.put, List.setIfInBounds_toArray, List.set_cons_zero, List.set_cons_succ, List.getElem_toArray, List.getElem_cons_succ, List.getElem_cons_zero]
            refine wpAnyH_take (i := 5) (v := ?_) rfl (by kernel_rfl) (by kernel_rfl) (by kernel_rfl) (fun _ _ _ h => h) (Or.inl ⟨by kernel_rfl, ?_⟩) hHeld ?_
            rotate_left
            · intro W hS
              go_simp
              try rfl
            simp only [Act.put, List.setIfInBounds_toArray, List.set_cons_zero, List.set_cons_succ, List.getElem_toArray, List.getElem_cons_succ, List.getElem_cons_zero]
            refine wpAnyH_take (i := 6) (v := ?_) rfl (by kernel_rfl) (by kernel_rfl) (by kernel_rfl) (fun _ _ _ h => h) (Or.inl ⟨by kernel_rfl, ?_⟩) hHeld ?_
            rotate_left
            · intro W hS
              go_simp
              try rfl
            simp only [Act.put, List.setIfInBounds_toArray, List.set_cons_zero, List.set_cons_succ, List.getElem_toArray, List.getElem_cons_succ, List.getElem_cons_zero]
            refine wpAnyH_take (i := 7) (v := inV k) rfl (by kernel_rfl) (by kernel_rfl) (by kernel_rfl) (fun _ _ _ h => h) (Or.inl ⟨by kernel_rfl, ?_⟩) hHeld ?_
            · intro W hS
              exact run_load_inm (by rfl) (by rfl) k hS.2
            simp only [Act.put, List.setIfInBounds_toArray, List.set_cons_zero, List.set_cons_succ]
            refine wpAnyH_ready (rs := [8]) (by kernel_rfl) (by simp) ?_
            refine AllReadyH.cons rfl (fun K hK => ?_) AllReadyH.nil
            go_simp
            with_reducible refine (hL.out _ b6d).mono ?_
            rintro e w7 ⟨rfl, b7⟩
            have hH7 := (⟨hHeld.1.below b7 hHeld.1.lt, range_below hHeld.2 b7⟩ : _ ∧ _)
            refine hK.out _ _ hH7 (fun _ => ?_)
            clear hK K
            try simp only [Act.put, List.setIfInBounds_toArray, List.set_cons_zero, List.set_cons_succ]
            refine wpAnyH_take (i := 9) (v := ?_) rfl (by kernel_rfl) (by kernel_rfl) (by kernel_rfl) (fun _ _ _ h => h) (Or.inl ⟨by kernel_rfl, ?_⟩) hH7 ?_
            rotate_left
            · intro W hS
              go_simp
              try rfl
            simp only [Act.put, List.setIfInBounds_toArray, List.set_cons_zero, List.set_cons_succ, List.getElem_toArray, List.getElem_cons_succ, List.getElem_cons_zero]
            refine wpAnyH_take (i := 10) (v := ?_) rfl (by kernel_rfl) (by kernel_rfl) (by kernel_rfl) (fun _ _ _ h => h) (Or.inl ⟨by kernel_rfl, ?_⟩) hH7 ?_
            rotate_left
            · intro W hS
              go_simp
              try rfl
            simp only [Act.put, List.setIfInBounds_toArray, List.set_cons_zero, List.set_cons_succ, List.getElem_toArray, List.getElem_cons_succ, List.getElem_cons_zero]
            refine wpAnyH_take (i := 11) (v := ?_) rfl (by kernel_rfl) (by kernel_rfl) (by kernel_rfl) (fun _ _ _ h => h) (Or.inl ⟨by kernel_rfl, ?_⟩) hH7 ?_
            rotate_left
            · intro W hS
              go_simp
              try rfl
            simp only [Act.put, List.setIfInBounds_toArray, List.set_cons_zero, List.set_cons_succ, List.getElem_toArray, List.getElem_cons_succ, List.getElem_cons_zero]
            refine wpAnyH_take (i := 12) (v := inV j) rfl (by kernel_rfl) (by kernel_rfl) (by kernel_rfl) (fun _ _ _ h => h) (Or.inl ⟨by kernel_rfl, ?_⟩) hH7 ?_
            · intro W hS
              exact run_load_row (by rfl) (by rfl) 26 _ (0, 0) _ hS.1.h Tryd.underlying26 rfl (szIn j)
            simp only [Act.put, List.setIfInBounds_toArray, List.set_cons_zero, List.set_cons_succ]
            refine wpAnyH_take (i := 13) (v := ?_) rfl (by kernel_rfl) (by kernel_rfl) (by kernel_rfl) (fun _ _ _ h => h) (Or.inl ⟨by kernel_rfl, ?_⟩) hH7 ?_
            rotate_left
            · intro W hS
              go_simp
              try rfl
            simp only [Act.put, List.setIfInBounds_toArray, List.set_cons_zero, List.set_cons_succ, List.getElem_toArray, List.getElem_cons_succ, List.getElem_cons_zero]
            refine wpAnyH_take (i := 14) (v := ?_) rfl (by kernel_rfl) (by kernel_rfl) (by kernel_rfl) (fun _ _ _ h => h) (Or.inl ⟨by kernel_rfl, ?_⟩) hH7 ?_
            rotate_left
            · intro W hS
              go_simp
              try rfl
            simp only [Act.put, List.setIfInBounds_toArray, List.set_cons_zero, List.set_cons_succ, List.getElem_toArray, List.getElem_cons_succ, List.getElem_cons_zero]
            refine wpAnyH_take (i := 15) (v := ?_) rfl (by kernel_rfl) (by kernel_rfl) (by kernel_rfl) (fun _ _ _ h => h) (Or.inl ⟨by kernel_rfl, ?_⟩) hH7 ?_
            rotate_left
            · intro W hS
              go_simp
              try rfl
            simp only [Act.put, List.setIfInBounds_toArray, List.set_cons_zero, List.set_cons_succ, List.getElem_toArray, List.getElem_cons_succ, List.getElem_cons_zero]
            refine wpAnyH_take (i := 16) (v := inV k) rfl (by kernel_rfl) (by kernel_rfl) (by kernel_rfl) (fun _ _ _ h => h) (Or.inl ⟨by kernel_rfl, ?_⟩) hH7 ?_
            · intro W hS
              exact run_load_inm (by rfl) (by rfl) k hS.2
            simp only [Act.put, List.setIfInBounds_toArray, List.set_cons_zero, List.set_cons_succ]
            refine wpAnyH_ready (rs := [17]) (by kernel_rfl) (by simp) ?_
            refine AllReadyH.cons rfl (fun K hK => ?_) AllReadyH.nil
            go_simp
            with_reducible refine (hS.out _).mono ?_
            rintro e w8 ⟨rfl, b8⟩
            have hH8 := (⟨hH7.1.below b8 hH7.1.lt, range_below hH7.2 b8⟩ : _ ∧ _)
            refine hK.out _ _ hH8 (fun _ => ?_)
            clear hK K
            try simp only [Act.put, List.setIfInBounds_toArray, List.set_cons_zero, List.set_cons_succ]
            refine wpAnyH_take (i := 18) (v := ?_) rfl (by kernel_rfl) (by kernel_rfl) (by kernel_rfl) (fun _ _ _ h => h) (Or.inl ⟨by kernel_rfl, ?_⟩) hH8 ?_
            rotate_left
            · intro W hS
              go_simp
              try rfl
            simp only [Act.put, List.setIfInBounds_toArray, List.set_cons_zero, List.set_cons_succ, List.getElem_toArray, List.getElem_cons_succ, List.getElem_cons_zero]
            refine wpAnyH_take (i := 19) (v := ?_) rfl (by kernel_rfl) (by kernel_rfl) (by kernel_rfl) (fun _ _ _ h => h) (Or.inl ⟨by kernel_rfl, ?_⟩) hH8 ?_
            rotate_left
            · intro W hS
              go_simp
              try rfl
            simp only [Act.put, List.setIfInBounds_toArray, List.set_cons_zero, List.set_cons_succ, List.getElem_toArray, List.getElem_cons_succ, List.getElem_cons_zero]
            refine wpAnyH_done (by kernel_rfl) ?_ _
            go_wp2_with fail
            go_roundw
            case rel => exact ⟨n + 1, s + l, by omega, by go_num, by go_num, HN, b4.trans ((b56.trans ((drew_below W5 (Nat.le_refl _)).mono b56.size)).trans ((b7.trans (b8.mono b7.size)).mono (Nat.le_trans b56.size (Nat.le_refl _))) |>.mono b4.size)⟩
            case measure => simp [intOf]; omega
          · have h1 : ((n : Int) < (ks.length : Int)) = False := eq_false (by omega)
            obtain rfl : n = ks.length := by omega
            have hs2 := hs.out
            rw [List.take_length, HFF.out] at hs2
            subst hs2
            go_wp2_with fail
            go_ret
            exact ⟨by simp, b⟩
  · have HB := Lib.hid (show ∃ n k, ks[n]? = some k ∧ isE k = false by
      obtain ⟨n, hn, rfl⟩ := List.getElem_of_mem hkx
      exact ⟨n, _, List.getElem?_eq_getElem hn, hbad⟩)
    clear hbad
    go_wp2_with fail
    go_loopw [5, 6] (fun ss ii W => ∃ (n : Nat) (s : Int), n ≤ ks.length ∧ ii = .int .i64 n ∧ ss = .int .i64 s ∧ RowKit.Hid (∀ k ∈ ks.take n, isE k = true) ∧ Below w.heap.size w W) (fun _ ii _ => ks.length - (intOf ii).toNat)
    case atStart => exact ⟨0, 0, by omega, rfl, rfl, Lib.hid (by simp), b12⟩
    case round =>
      obtain ⟨n, s, hn2, rfl, rfl, hall, b⟩ := hrel
      by_cases hlt : n < ks.length
      · have h1 : ((n : Int) < (ks.length : Int)) = True := eq_true (by omega)
        have hwr : IntKind.i64.wrap ((n : Int) + 1) = (n : Int) + 1 := by rw [IntKind.wrap_i64]; omega
        obtain ⟨k, hk⟩ : ∃ k, ks[n]? = some k := ⟨ks[n], List.getElem?_eq_getElem hlt⟩
        have hmem : k ∈ ks := List.mem_of_getElem? hk
        obtain hr | ⟨g, off, rfl, hg, hr⟩ := hr
        · rw [hr] at hlt; exact absurd hlt (by simp)
        have hR : wr.rangeAt g (off + n * 16) (in16 k).toList := fun j u hu => by
          have := hr n k hk j u hu
          simp only [World.cell?, b.block g hg] at this ⊢
          exact this
        have htk : ks.take (n + 1) = ks.take n ++ [k] := by rw [List.take_add_one, hk]; rfl
        have hL0 := hLen.out k hmem
        clear hr
        cases hi : isE k
        · have hL1 : lenE k = 0 := by unfold lenE; rw [hi]; rfl
          rw [hL1] at hL0
          have hL := Lib.hid hL0
          clear hL0 hL1 hi
          go_wp2_with (first | (with_reducible refine load_in_mid rfl _ rfl g (off + n * 16) k rfl hR ?_) | ((with_reducible refine (hL.out _ b).mono ?_); rintro e W4 ⟨rfl, b5⟩))
          go_ret
          exact ⟨rfl, b.trans (b5.mono b.size)⟩
        · have hp : (lenE k == 0) = false := by
            have := (enc_read (k := withLen k 0) hi (hks k hmem).A (hks k hmem).B []).2.1
            have e : encM (withLen k 0) = encM k := rfl
            rw [e] at this
            unfold lenE; rw [if_pos hi, beq_eq_false_iff_ne]
            omega
          have hnext : ∀ q ∈ ks.take (n + 1), isE q = true := by
            rw [htk]
            intro q hq
            rcases List.mem_append.1 hq with h | h
            · exact hall.out q h
            · obtain rfl := List.mem_singleton.1 h; exact hi
          have HN := Lib.hid hnext
          have hL := Lib.hid hL0
          clear hL0 hi hnext htk
          generalize lenE k = lk at *
          go_wp2_with (first | (with_reducible refine load_in_mid rfl _ rfl g (off + n * 16) k rfl hR ?_) | ((with_reducible refine (hL.out _ b).mono ?_); rintro e W4 ⟨rfl, b5⟩; have b6 := b.trans (b5.mono b.size); have hR2 : W4.rangeAt g (off + n * 16) (in16 k).toList := range_below hR b5) | (with_reducible refine load_in_mid rfl _ rfl g (off + n * 16) k rfl hR2 ?_) | ((with_reducible refine (hL.out _ b6).mono ?_); rintro e W5 ⟨rfl, b7⟩; have b8 := b6.trans (b7.mono b6.size)))
          go_roundw
          case rel => exact ⟨n + 1, _, by omega, by go_num, rfl, HN, b8⟩
          case measure => simp [intOf]; omega
      · exfalso
        obtain ⟨m, k, hk, hb⟩ := HB.out
        have hm : m < ks.length := (List.getElem?_eq_some_iff.1 hk).1
        have := hall.out k (by rw [List.take_of_length_le (by omega)]; exact List.mem_of_getElem? hk)
        rw [this] at hb; cases hb
theorem erows_any {w : World} {v : Value} {ks : List In} (hI : Il w v ks) (hks : ∀ k ∈ ks, Wd k) (tabs : Tabs w) : Calls Tryd.prog 5 #[v] w fun e w' => e = .returned (.bool true) ∧ Below w.heap.size w w' := by
  by_cases hn : (12 : Int) < (ks.length : Int)
  · exact rows_far hI tabs hn
  · exact rows_any hI hks tabs hn
end Go.Proofs.YtbfkgakkkibejaaDoor
