/- PageSpans. -/
import Derived.Test.YtohkfkojheecoaaP5
import Derived.Test.YtohkfkojheecoaaL1
namespace Go.Proofs.Ytohkfkojheecoaa
open Go.RowKit
set_option linter.unusedVariables false
set_option linter.unusedSimpArgs false
set_option linter.unusedSectionVars false

abbrev sp1 (p : Nat) (s : ByteArray) : Sp := ⟨p, 2, 3, s⟩
abbrev sp2 (q : Nat) : Sp := ⟨q, 1, 4, ⟨#[]⟩⟩
theorem pLoad {n0 : Nat} {w0 w : World} {B : Nat} {m : Mm} (g : Pg n0 w0 w B m) (x : Option Addr) (len cap : Nat) (L : List Sp) (hs : SpansAt w x len L) (hlen : len ≤ 9223372036854775807) :
    Calls Try.prog 24 #[mp B, .slice x len cap] w fun e w' => e = .returned (.int .i64 (imgE (loadL L Mm.new))) ∧ Pg n0 w0 w' B ((loadL L Mm.new).getD m) ∧ But [B] w.heap.size w w' :=
  (Load_any g.h x len cap L hs hlen).mono fun e w' h => ⟨h.1, g.step h.2.1 (by
    cases hl : loadL L Mm.new with
    | none => exact g.ok
    | some m' => exact loadL_ok L new_okM hl) h.2.2, h.2.2⟩
theorem spans_at (w : World) (p q : Nat) (hp : p < 60) (hq : q < 60) (s : ByteArray) (hs : s.size ≤ 600) (T : TypeId) :
    SpansAt (w.alloc (.cells #[.int .i64 p, .int .i64 2, .int .i64 3, .string s, .int .i64 q, .int .i64 1, .int .i64 4, .string ⟨#[]⟩] T)) (some ⟨w.heap.size, 0, none⟩) 2 [sp1 p s, sp2 q] := by
  refine ⟨rfl, fun y hy => ?_, .inr ⟨w.heap.size, 0, rfl, by simp, fun i y hy => ?_⟩⟩
  · simp at hy
    rcases hy with rfl | rfl
    · dsimp only; omega
    · dsimp only; have : (⟨#[]⟩ : ByteArray).size = 0 := rfl
      omega
  · have hi : i < 2 := by have := (List.getElem?_eq_some_iff.1 hy).1; simpa using this
    rcases (by omega : i = 0 ∨ i = 1) with rfl | rfl
    · cases hy
      refine ⟨?_, ?_, ?_, ?_⟩ <;> rw [World.cell?_alloc_new] <;> rfl
    · cases hy
      refine ⟨?_, ?_, ?_, ?_⟩ <;> rw [World.cell?_alloc_new] <;> rfl
theorem map_free (m : Mm) (q : Nat) (hq : q < 60) (v : Int) (hv : areL v = true) : mapE m q 1 v = (m.r q == 0) := by
  unfold mapE canL
  rw [hv, there_iff.2 (by omega), Int.toNat_natCast, show (1 : Int).toNat = 1 from rfl]
  cases hb : (m.r q == 0) <;> simp [allL, bne, hb]
theorem sp1_ok (p : Nat) (s : ByteArray) (hp : p < 60) : spE Mm.new (sp1 p s) = decide (s.size ≤ 512) := by
  unfold spE
  rw [show mapE Mm.new (sp1 p s).p (sp1 p s).n (sp1 p s).r = true by
    show mapE Mm.new (p : Int) (2 : Nat) 3 = true
    rw [new_map, are_iff.2 (by decide), there_iff.2 (by omega)]; rfl, Bool.true_and]
  apply Bool.eq_iff_iff.2
  rw [decide_eq_true_eq, decide_eq_true_eq]
  dsimp only
  omega
theorem sp1_r (p : Nat) (s : ByteArray) (hp : p < 60) (i : Nat) : (spS Mm.new (sp1 p s)).r i = if p ≤ i ∧ i < p + 2 then 3 else 0 := by
  show (mapS Mm.new (p : Int) (2 : Nat) 3).r i = _
  unfold mapS
  rw [if_pos (by rw [new_map, are_iff.2 (by decide), there_iff.2 (by omega)]; rfl), Int.toNat_natCast, Int.toNat_natCast]
  rfl
theorem two_spans (p q : Nat) (s : ByteArray) (hp : p < 60) (hq : q < 60) :
    loadL [sp1 p s, sp2 q] Mm.new = if s.size ≤ 512 ∧ q ≠ p ∧ q ≠ p + 1 then some (setR (spS Mm.new (sp1 p s)) q 1 4) else none := by
  unfold loadL
  rw [sp1_ok p s hp]
  by_cases h1 : s.size ≤ 512
  · rw [if_pos (by rw [decide_eq_true h1])]
    unfold loadL
    have h2 : spE (spS Mm.new (sp1 p s)) (sp2 q) = !decide (p ≤ q ∧ q < p + 2) := by
      unfold spE
      rw [show mapE (spS Mm.new (sp1 p s)) (sp2 q).p (sp2 q).n (sp2 q).r = _ from map_free _ q hq 4 (by decide), sp1_r p s hp]
      by_cases h : p ≤ q ∧ q < p + 2
      · rw [if_pos h, decide_eq_true h]; rfl
      · rw [if_neg h, decide_eq_false h]; rfl
    rw [h2]
    by_cases h : p ≤ q ∧ q < p + 2
    · rw [decide_eq_true h, if_neg (by decide), if_neg (by omega)]
    · rw [decide_eq_false h, if_pos (by decide), if_pos (by omega)]
      unfold loadL
      congr 1
      unfold spS
      rw [show bytesZ (sp2 q).s = [] from rfl, putB_nil]
      show mapS _ (q : Int) 1 4 = _
      unfold mapS
      rw [if_pos (by rw [map_free _ q hq 4 (by decide)]; show ((spS Mm.new (sp1 p s)).r q == 0) = true; rw [sp1_r p s hp, if_neg h]; rfl), Int.toNat_natCast, show (1 : Int).toNat = 1 from rfl]
      rfl
  · rw [if_neg (by rw [decide_eq_false h1]; decide), if_neg (fun h => h1 h.1)]
theorem spans_peek (p q : Nat) (s : ByteArray) (hp : p < 60) (hq : q < 60) (h1 : s.size ≤ 512) (h2 : q ≠ p) (h3 : q ≠ p + 1) :
    mappedL (setR (spS Mm.new (sp1 p s)) q 1 4) ((256 * p : Nat) : Int) s.size = s.size ∧ peekL (setR (spS Mm.new (sp1 p s)) q 1 4) ((256 * p : Nat) : Int) s.size = bytesZ s := by
  have hm : mappedL (setR (spS Mm.new (sp1 p s)) q 1 4) ((256 * p : Nat) : Int) s.size = s.size := mapped_full (by omega) (by omega) (fun i hi => by
    rw [Int.toNat_natCast]
    dsimp only [setR]
    rw [if_neg (by omega), sp1_r p s hp, if_pos (by omega)]; decide)
  refine ⟨hm, ?_⟩
  unfold peekL
  rw [hm, Int.toNat_natCast]
  apply List.ext_getElem?
  intro i
  by_cases hi : i < s.size
  · rw [List.getElem?_map, List.getElem?_range hi]
    have hb : i < (bytesZ s).length := by rw [bytesZ_len]; exact hi
    rw [List.getElem?_eq_getElem hb]
    show some ((putB (mapS Mm.new (p : Int) 2 3) (p * 256) (bytesZ s)).b (256 * p + i)) = _
    dsimp only [putB]
    rw [if_pos (by rw [bytesZ_len]; omega), show 256 * p + i - p * 256 = i by omega, List.getD_eq_getElem?_getD, List.getElem?_eq_getElem hb]
    rfl
  · rw [List.getElem?_eq_none (by simp; omega), List.getElem?_eq_none (by rw [bytesZ_len]; omega)]
set_option maxHeartbeats 1000000 in
set_option maxRecDepth 8000 in
theorem spans_walk (a b : Int) (s : ByteArray) (ha : (Lit.int .u8 a).wf = true) (hb : (Lit.int .u8 b).wf = true) (hs : s.size ≤ maxLen) (w : World) :
    Calls Try.prog 8 #[.int .u8 a, .int .u8 b, .string s] w fun e w' => e = .returned (.bool true) ∧ Below w.heap.size w w' := by
  replace ha := wfb_u8 ha
  replace hb := wfb_u8 hb
  by_cases h600 : 600 < s.size
  · go_enter Try.func8, Try.ntmps8
    go_wp2_with fail
    refine (known_any _).mono ?_
    rintro e w0 ⟨rfl, b0⟩
    go_wp2_with fail
    go_ret
    exact ⟨rfl, b0⟩
  · obtain ⟨p, hp, hp1⟩ : ∃ p : Nat, a % 60 = p ∧ p < 60 := ⟨(a % 60).toNat, by omega, by omega⟩
    obtain ⟨q, hq, hq1⟩ : ∃ q : Nat, b % 60 = q ∧ q < 60 := ⟨(b % 60).toNat, by omega, by omega⟩
    have hL := two_spans p q s hp1 hq1
    go_enter Try.func8, Try.ntmps8
    go_wp2_with fail
    refine (known_any _).mono ?_
    rintro e w0 ⟨rfl, b0⟩
    have s0 := b0.size
    go_wp2_with fail
    refine (pNew _).mono ?_
    rintro e w1 ⟨rfl, p1⟩
    have hsp := spans_at w1 p q hp1 hq1 s (by omega) 37
    replace p1 := p1.below ((Below.refl w1.heap.size w1).alloc (Nat.le_refl _) (.cells #[.int .i64 p, .int .i64 2, .int .i64 3, .string s, .int .i64 q, .int .i64 1, .int .i64 4, .string ⟨#[]⟩] 37))
    have qq := pLoad p1 _ 2 2 _ hsp (by decide)
    clear hsp
    by_cases hf : s.size ≤ 512 ∧ q ≠ p ∧ q ≠ p + 1
    · rw [if_pos hf] at hL
      obtain ⟨f1, f2, f3⟩ := hf
      obtain ⟨g1, g2⟩ := spans_peek p q s hp1 hq1 f1 f2 f3
      rw [hL] at qq
      have r1 : rightsL (setR (spS Mm.new (sp1 p s)) q 1 4) ((p : Int) + 1) = 3 := by
        rw [show ((p : Int) + 1) = ((p + 1 : Nat) : Int) by omega, rights_at _ _ (by omega)]
        dsimp only [setR]
        rw [if_neg (by omega), sp1_r p s hp1, if_pos (by omega)]
      have r2 : rightsL (setR (spS Mm.new (sp1 p s)) q 1 4) q = 4 := by
        rw [rights_at _ _ (by omega)]
        dsimp only [setR]
        rw [if_pos (by omega)]
      have r3 : rightsL (setR (spS Mm.new (sp1 p s)) q 1 4) ((p : Int) + 2) = if q = p + 2 then 4 else 0 := by
        rw [show ((p : Int) + 2) = ((p + 2 : Nat) : Int) by omega, rights_at _ _ (by omega)]
        dsimp only [setR]
        by_cases h : q = p + 2
        · rw [if_pos (by omega), if_pos h]
        · rw [if_neg (by omega), sp1_r p s hp1, if_neg (by omega), if_neg h]
      rw [show (((256 * p : Nat) : Nat) : Int) = 256 * (p : Int) by omega] at g1 g2
      clear hL
      rw [show imgE (some (setR (spS Mm.new (sp1 p s)) q 1 4)) = 0 from rfl, show (some (setR (spS Mm.new (sp1 p s)) q 1 4)).getD Mm.new = setR (spS Mm.new (sp1 p s)) q 1 4 from rfl] at qq
      generalize setR (spS Mm.new (sp1 p s)) q 1 4 = m2 at *
      have qp : ¬ q = p := f2
      have qp1 : ¬ q = p + 1 := f3
      have e0 : ((q : Int) != p) = true := by simp; omega
      have e1 : ((q : Int) != (p : Int) + 1) = true := by simp; omega
      go_wp2_with fail
      refine qq.mono ?_
      rintro e w2 ⟨rfl, p2, -⟩
      clear qq p1
      go_wp2_with fail
      have q3 := pPeek p2 (256 * (p : Int)) s.size (by omega) (by omega)
      rw [Int.toNat_natCast, g1, g2] at q3
      refine q3.mono ?_
      rintro e w3 ⟨⟨X, cap, rfl, hrow⟩, p3, -⟩
      have hcv := conv_row (cap := cap) hrow
      rw [strZ_of] at hcv
      clear q3 p2 hrow g1 g2
      have d := b0.trans (p3.done.mono s0)
      have k1 := pRights p3 ((p : Int) + 1)
      have k2 := pRights p3 q
      have k3 := pRights p3 ((p : Int) + 2)
      rw [r1] at k1
      rw [r2] at k2
      rw [r3] at k3
      clear r1 r2 r3 e0 e1 qp qp1 f2 f3
      go_wp2_with fail
      refine k1.mono ?_
      rintro e w4 ⟨rfl, rfl⟩
      clear k1
      go_wp2_with fail
      refine k2.mono ?_
      rintro e w4 ⟨rfl, rfl⟩
      clear k2
      by_cases h2 : q = p + 2
      · clear k3
        have e2 : ((p : Int) + 2 == q) = true := by simp; omega
        go_wp2_with fail
        go_ret
        exact ⟨rfl, d⟩
      · rw [if_neg h2] at k3
        have e2 : ((p : Int) + 2 == q) = false := by simp; omega
        clear h2
        go_wp2_with fail
        refine k3.mono ?_
        rintro e w4 ⟨rfl, rfl⟩
        go_wp2_with fail
        go_ret
        exact ⟨rfl, d⟩
    · rw [if_neg hf] at hL
      rw [hL] at qq
      rw [show imgE none = 60 from rfl, show (none : Option Mm).getD Mm.new = Mm.new from rfl] at qq
      clear hL
      have eB : (s.size ≤ 512 ∧ ((q : Int) != p) = false) ∨ (s.size ≤ 512 ∧ ((q : Int) != p) = true ∧ ((q : Int) != (p : Int) + 1) = false) ∨ 512 < s.size := by
        rcases (by omega : 512 < s.size ∨ (s.size ≤ 512 ∧ q = p) ∨ (s.size ≤ 512 ∧ q ≠ p ∧ q = p + 1)) with h | ⟨h, h1⟩ | ⟨h, h1, h2⟩
        · exact .inr (.inr h)
        · exact .inl ⟨h, by simp; omega⟩
        · exact .inr (.inl ⟨h, by simp; omega, by simp; omega⟩)
      clear hf
      rcases eB with ⟨h, h1⟩ | ⟨h, h1, h2⟩ | h
      all_goals
        go_wp2_with fail
        refine qq.mono ?_
        rintro e w2 ⟨rfl, p2, -⟩
        clear qq p1
        go_wp2_with fail
        refine (New_any _).mono ?_
        rintro e w5 ⟨rfl, h5, k5⟩
        have p5 := p2.below k5
        go_wp2_with fail
        refine (Same_any p5.h h5).mono ?_
        rintro e w6 ⟨rfl, k6⟩
        have d := b0.trans ((p5.below k6).done.mono s0)
        go_wp2_with fail
        go_ret
        exact ⟨rfl, d⟩
end Go.Proofs.Ytohkfkojheecoaa
