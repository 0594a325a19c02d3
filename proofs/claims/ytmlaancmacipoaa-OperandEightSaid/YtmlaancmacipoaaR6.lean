/- The document's memory: Peek. -/
import Derived.Test.YtmlaancmacipoaaR5
namespace Go.Proofs.Ytmlaancmacipoaa
open Go.RowKit
set_option linter.unusedVariables false
set_option linter.unusedSimpArgs false
set_option linter.unusedSectionVars false

theorem own_row8 {w : World} {base n : Nat} {v : Value} {zs : List Int} (h : w.ownsRow base 5 1 v n (zs.map (Value.int .u8))) (hz : ∀ z ∈ zs, 0 ≤ z ∧ z ≤ 255) : ∃ x cap, v = .slice x n cap ∧ Row8 w x n zs := by
  obtain ⟨hl, h2⟩ := h
  rw [List.length_map, Nat.mul_one] at hl
  rcases h2 with ⟨rfl, rfl⟩ | ⟨g, cap, cur, rfl, hb, hg, hn, hm, hs, ht⟩
  · exact ⟨none, 0, rfl, hl, hz, .inl (List.length_eq_zero_iff.1 hl)⟩
  · refine ⟨some ⟨g, 0, none⟩, cap, rfl, hl, hz, .inr ⟨g, 0, rfl, (Array.getElem?_eq_some_iff.1 hg).1, fun i hi => ?_⟩⟩
    rw [Nat.mul_one] at ht
    have : cur[i]? = some (.int .u8 (zs.getD i 0)) := by
      have h1 := congrArg (·[i]?) ht
      simp only [List.getElem?_take, if_pos hi, List.getElem?_map, Array.getElem?_toList] at h1
      rw [h1, List.getElem?_eq_getElem (by omega)]
      simp [List.getD_eq_getElem?_getD, show i < zs.length by omega]
    rw [Nat.zero_add]
    simp only [World.cell?, hg]
    simpa using this
theorem ownsRow_below {w w' : World} {base n : Nat} {v : Value} {e : TypeId} {sz : Nat} {xs : List Value} (h : w.ownsRow base e sz v n xs) (b : Below w.heap.size w w') : w'.ownsRow base e sz v n xs :=
  h.kept (row := none) ⟨b.os, b.tape, b.output, b.size, fun k hk _ => b.block k hk⟩ (by cases hv : v.ownBlock <;> simp)
set_option maxHeartbeats 1000000 in
set_option maxRecDepth 8000 in
theorem rPeek {R : Nat} {m : Mm} {w : World} (h : RAt w R m) (ok : m.ok) (a : Int) (ha : U32 a) (n : Int) (hn : I64 n) :
    Calls Try.prog 30 #[mp R, .int .u32 a, .int .i64 n] w fun e w' => (∃ x cap, e = .returned (.slice x (mappedL m a n.toNat) cap) ∧ Row8 w' x (mappedL m a n.toNat) (peekL m a n.toNat)) ∧ Below w.heap.size w w' := by
  generalize hM : mappedL m a n.toNat = M
  have hM' := hid hM
  clear hM
  have hi : ∃ i : TypeInfo, Try.prog.info? 5 = some i ∧ i.zero = some (.int .u8 0) ∧ i.size = 1 ∧ i.bytes = 1 := by
    have : (Try.prog.info? 5).map (fun i => (i.zero, i.size, i.bytes)) = some (some (.int .u8 0), 1, 1) := by kernel_rfl
    obtain ⟨i, hi, hz⟩ := Option.map_eq_some_iff.1 this
    simp only [Prod.mk.injEq] at hz
    exact ⟨i, hi, hz⟩
  go_enter Try.func30, Try.ntmps30
  go_wp2_with fail
  go_loopw [7, 8] (fun vv ii W => ∃ (k : Nat) (v : Value), (k : Int) ≤ max 0 n ∧ k ≤ 16384 ∧ ii = .int .i64 k ∧ vv = v ∧ mappedL m a k = k ∧ W.ownsRow w.heap.size 5 1 v k (((List.range k).map fun i => m.b (a.toNat + i)).map (Value.int .u8)) ∧ Below w.heap.size w W) (fun _ ii _ => (n - intOf ii).toNat)
  case atStart => exact ⟨0, _, by omega, by omega, rfl, rfl, rfl, World.ownsRow_nil _ _ _ _, Below.refl _ _⟩
  case round =>
    obtain ⟨k, v, hk, hk2, rfl, rfl, hm, hown, kb⟩ := hrel
    have hx := h.below kb h.lt
    have fin : (M = k) → ∃ x cap, u7 = .slice x M cap ∧ Row8 wr x M (peekL m a n.toNat) := fun e => by
      obtain ⟨x, cap, hv, hr⟩ := own_row8 hown (fun z hz => by simp only [List.mem_map] at hz; obtain ⟨i, -, rfl⟩ := hz; exact ok.b _)
      subst e
      refine ⟨x, cap, hv, ?_⟩
      unfold peekL
      rw [hM'.out]
      exact hr
    obtain ⟨K, hK⟩ : ∃ K : Int, (k : Int) = K := ⟨_, rfl⟩
    by_cases hlt : (k : Int) < n
    · by_cases h16 : k = 16384
      · have hend := mapped_end ok ha hm (by omega)
        have e : M = k := by
          rw [← hM'.out]
          refine mapped_stop hm ?_ _ (by omega)
          rw [ok.out _ (by omega)]
        obtain ⟨x, cap, rfl, hr⟩ := fin e
        have hKn : K < n := by omega
        have hK16 : K = 16384 := by omega
        rw [hK]
        subst hK16
        clear hlt h16 hK fin hk hk2 hm hown e
        go_wp2_with fail
        go_ret
        first | exact ⟨⟨x, cap, rfl, hr⟩, kb⟩ | exact ⟨⟨x, ⟨cap, rfl⟩, hr⟩, kb⟩
      · have hq := rRight hx ok ((a + k) % 4294967296) (by omega)
        have hKn : K < n := by omega
        have hK0 : 0 ≤ K := by omega
        have hK16 : K < 16384 := by omega
        by_cases hz0 : placeL m ((a + k) % 4294967296) = 0
        · have e : M = k := by rw [← hM'.out]; exact mapped_stop hm hz0 _ (by omega)
          obtain ⟨x, cap, rfl, hr⟩ := fin e
          rw [hz0, hK] at hq
          rw [hK]
          clear hz0 hK fin hm hown hk hk2 hlt h16 e
          go_wp2_with fail
          go_at_call 23
          refine hq.mono ?_
          rintro e w' ⟨rfl, rfl⟩
          go_wp2_with fail
          go_ret
          first | exact ⟨⟨x, cap, rfl, hr⟩, kb⟩ | exact ⟨⟨x, ⟨cap, rfl⟩, hr⟩, kb⟩
        · have hg : mappedL m a (k + 1) = k + 1 := mapped_go hm hz0
          have hend := mapped_end ok ha hg (by omega)
          obtain ⟨A, rfl⟩ := Int.eq_ofNat_of_zero_le ha.1
          rw [Int.toNat_natCast] at hown
          have hcell := hx.b (A + k) (by omega)
          have hbb := ok.b (A + k)
          have hix := ixB R (A + k) (by omega) .u32
          obtain ⟨i, hi1, hi2, hi3, hi4⟩ := hi
          have hown1 := hown.alloc (.cells #[.int .u8 (m.b (A + k))] 5)
          have hnews : ∀ j u, [Value.int .u8 (m.b (A + k))][j]? = some u → (wr.alloc (.cells #[.int .u8 (m.b (A + k))] 5)).cell? ((⟨wr.heap.size, 0, none⟩ : Addr).add j) = some u := fun j u hj => by
            have hj0 : j = 0 := by have := (List.getElem?_eq_some_iff.1 hj).1; simpa using this
            subst hj0
            simp at hj
            subst hj
            simp [go_sem, Addr.add]
          have hone : ∀ u ∈ [Value.int .u8 (m.b (A + k))], u.oneCell' = true := by simp [Value.oneCell']
          have h63 : k + 1 ≤ maxLen := by simp [maxLen]; omega
          have hby : (k + 1) * 1 ≤ 140737488355328 := by omega
          have hba : w.heap.size ≤ (wr.alloc (.cells #[.int .u8 (m.b (A + k))] 5)).heap.size := by have := kb.size; simp; omega
          have ka := kb.alloc kb.size (.cells #[.int .u8 (m.b (A + k))] 5)
          have hlist : ((List.range (k + 1)).map fun i => m.b (A + i)).map (Value.int .u8) = ((List.range k).map fun i => m.b (A + i)).map (Value.int .u8) ++ [Value.int .u8 (m.b (A + k))] := by rw [List.range_succ, List.map_append, List.map_append]; rfl
          have hlist' := hid hlist
          have hown1' := hid hown1
          have hnews' := hid hnews
          have hone' := hid hone
          have hlt' := hid hown.lt
          clear hlist hown1 hnews hone
          generalize m.b (A + k) = z at *
          rw [show ((A + k : Nat) : Int) = (A : Int) + K by omega] at hix
          rw [hK] at hq
          generalize hy : placeL m ((A : Int) + K) = y
          rw [show ((A : Int) + K) % 4294967296 = A + K by omega, hy] at hq
          have hy0 : (y == 0) = false := by
            rw [← hy]; rw [hK, show ((A : Int) + K) % 4294967296 = A + K by omega] at hz0; simpa using hz0
          have hAK : (A : Int) + K < 16384 := by omega
          have hg' := hid hg
          have hK' := hid hK
          have hkn : Hid (((k + 1 : Nat) : Int) ≤ max 0 n) := hid (by omega)
          have hk16 : Hid (k + 1 ≤ 16384) := hid (by omega)
          rw [hK]
          clear hown fin hz0 hg hend hm hK hk hk2 hlt h16 hy kb
          go_wp2_with fail
          go_at_call 23
          refine hq.mono ?_
          rintro e w2 ⟨rfl, rfl⟩
          go_wp2_with (refine wpList_append_own (P := Try.prog) _ rfl (.tmp 27) (.tmp 34) 74 rfl w.heap.size 5 i (.int .u8 0) 1 1 (by kernel_rfl) hi1 hi2 hi3 hi4 rfl (by decide) u7 k _ rfl hown1'.out ⟨wr.heap.size, 0, none⟩ 1 1 [.int .u8 z] rfl rfl hnews'.out hone'.out h63 hby hba (fun v' w' ho2 hgr _ => ?_))
          have kc : Below w.heap.size w w' := ka.trans ⟨hgr.os, hgr.tape, hgr.output, hgr.size, fun j hj => hgr.block j (Nat.lt_of_lt_of_le hj hba) (fun e => by have := (hlt'.out j e.symm).1; omega)⟩
          rw [← hlist'.out] at ho2
          go_roundw
          case rel => exact ⟨k + 1, v', hkn.out, hk16.out, by have := hK'.out; rw [← this]; go_num, rfl, hg'.out, by rw [Int.toNat_natCast]; exact ho2, kc⟩
          case measure => simp [intOf]; omega
    · have e : M = k := by
        rw [← hM'.out, show n.toNat = k by omega, hm]
      obtain ⟨x, cap, rfl, hr⟩ := fin e
      have hKn : n ≤ K := by omega
      rw [hK]
      clear hlt hK fin hk hk2 hm hown e
      go_wp2_with fail
      go_ret
      first | exact ⟨⟨x, cap, rfl, hr⟩, kb⟩ | exact ⟨⟨x, ⟨cap, rfl⟩, hr⟩, kb⟩
end Go.Proofs.Ytmlaancmacipoaa
