/- Bytes of a call's own: appended, decoded. -/
import Derived.Test.YtbfkgakkkibejaaDoorP16
import Derived.Laws.AppendOwnNone
namespace Go.Proofs.YtbfkgakkkibejaaDoor
open Go.RowKit
set_option linter.unusedVariables false
set_option linter.unusedSimpArgs false
set_option linter.unusedSectionVars false

/-- Bytes of a call's own: all blocks from N on are its own. -/
structure Own (w : World) (N : Nat) (v : Value) (zs : List Int) : Prop where
  bd : ∀ z ∈ zs, 0 ≤ z ∧ z ≤ 255
  row : w.ownsRow N 5 1 v zs.length (zs.map (Value.int .u8))
theorem Own.ba {w : World} {N : Nat} {v : Value} {zs : List Int} (h : Own w N v zs) : ∃ a cap, v = .slice a zs.length cap ∧ Ba w a zs.length cap zs := by
  obtain ⟨hb, -, h | ⟨g, cap, cur, rfl, hN, hg, hn, hm, hs, ht⟩⟩ := h
  · obtain ⟨rfl, h0⟩ := h
    obtain rfl := List.eq_nil_of_length_eq_zero h0
    exact ⟨none, 0, rfl, ⟨⟨rfl, by simp, .inl rfl⟩, Nat.le_refl _, by decide, fun _ => rfl⟩⟩
  · refine ⟨_, cap, rfl, ⟨⟨rfl, hb, .inr ⟨g, 0, rfl, (Array.getElem?_eq_some_iff.1 hg).1, fun i hi => ?_⟩⟩, hn, by simp only [maxLen] at hm; omega, fun e => by cases e⟩⟩
    have e : (zs.map (Value.int .u8))[i]? = some (.int .u8 (zs.getD i 0)) := by simp [List.getD_eq_getElem?_getD, hi]
    rw [← ht, List.getElem?_take, if_pos (by omega)] at e
    rw [Nat.zero_add]
    simp only [World.cell?, hg]
    simpa using e
theorem Own.below {w w' : World} {N : Nat} {v : Value} {zs : List Int} (h : Own w N v zs) (b : Below w.heap.size w w') : Own w' N v zs := by
  obtain ⟨hb, hl, h | ⟨g, cap, cur, rfl, hN, hg, rest⟩⟩ := h
  · exact ⟨hb, hl, .inl h⟩
  · exact ⟨hb, hl, .inr ⟨g, cap, cur, rfl, hN, (b.block g (Array.getElem?_eq_some_iff.1 hg).1).trans hg, rest⟩⟩
theorem Own.drew {w : World} {N : Nat} {v : Value} {zs : List Int} (h : Own w N v zs) : Own w.drew N v zs := ⟨h.bd, h.row⟩
/-- A list of bytes written out. -/
theorem Own.new (w : World) (N : Nat) (hN : N ≤ w.heap.size) (zs : List Int) (hz : ∀ z ∈ zs, 0 ≤ z ∧ z ≤ 255) (hl : zs.length ≤ 100) {cells : Array Value} (hc : cells = (zs.map (Value.int .u8)).toArray) :
    Own (w.alloc (.cells cells 5)) N (.slice (some ⟨w.heap.size, 0, none⟩) zs.length zs.length) zs := by
  subst hc
  exact ⟨hz, by simp, .inr ⟨w.heap.size, zs.length, _, rfl, hN, alloc_new _ _, Nat.le_refl _, by simp only [maxLen]; omega, by simp, by simp only [Nat.mul_one]; exact List.take_of_length_le (by simp)⟩⟩
theorem grown_below {w w' : World} {N : Nat} {row : Option Nat} (h : w.grownBy w' row) (hN : N ≤ w.heap.size) (hr : ∀ k, row = some k → N ≤ k) : Below N w w' :=
  ⟨h.os, h.tape, h.output, h.size, fun k hk => h.block k (by omega) (fun e => by have := hr k e.symm; omega)⟩
theorem info_u8m : (Tryd.prog.info? 5).map (fun i => (i.zero, i.size, i.bytes)) = some (some (.int .u8 0), 1, 1) := by kernel_rfl
theorem info_u8 : ∃ i, Tryd.prog.info? 5 = some i ∧ i.zero = some (.int .u8 0) ∧ i.size = 1 ∧ i.bytes = 1 := by
  have h := info_u8m
  cases hi : Tryd.prog.info? 5 with
  | none => rw [hi] at h; cases h
  | some i =>
    rw [hi] at h
    simp only [Option.map_some, Option.some.injEq, Prod.mk.injEq] at h
    exact ⟨i, rfl, h.1, h.2.1, h.2.2⟩
/-- 'append' of bytes to bytes of the call's own. -/
theorem append_bytes {ops : Array Oper} {rest : List Oper} {o : Oper} {a : Act} {w : World} {Q : Exit → Act → World → Prop} (hgd : o.guard = none) (s x : Operand)
    (ho : o.op = .call { callee := .builtin .append, args := #[s, x], argTypes := #[28, 28] })
    (N : Nat) (v : Value) (xs ys : List Int) (hs : a.eval s = v) (h : Own w N v xs) (hN : N ≤ w.heap.size)
    (b : Option Addr) (m c : Nat) (hx : a.eval x = .slice b m c) (B : Ba w b m c ys) (hl : xs.length + ys.length ≤ 100)
    (k : ∀ v' w', Own w' N v' (xs ++ ys) → Below N w w' → wpList Tryd.prog ops Q rest (a.put o.dst v') w') : wpList Tryd.prog ops Q (o :: rest) a w := by
  obtain ⟨i, hi, hz, hsz, hby⟩ := info_u8
  have hrow : ∀ k, v.ownBlock = some k → N ≤ k := fun k hk => (h.row.lt k hk).1
  obtain ⟨hl2, hb2, hr⟩ := B.row
  have fin : ∀ v' w', w'.ownsRow N 5 1 v' (xs.length + ys.length) (xs.map (Value.int .u8) ++ ys.map (Value.int .u8)) → w.grownBy w' v.ownBlock → wpList Tryd.prog ops Q rest (a.put o.dst v') w' := by
    intro v' w' h1 h2
    refine k v' w' ⟨fun z hz => ?_, ?_⟩ (grown_below h2 hN hrow)
    · rcases List.mem_append.1 hz with h3 | h3
      · exact h.bd z h3
      · exact hb2 z h3
    · rw [List.length_append, List.map_append]; exact h1
  have some_case : ∀ g off, b = some ⟨g, off, none⟩ → (∀ j, j < m → w.cell? ⟨g, off + j, none⟩ = some (.int .u8 (ys.getD j 0))) → wpList Tryd.prog ops Q (o :: rest) a w := by
    rintro g off rfl hc
    refine wpList_append_own w hgd s x 28 ho N 5 i (.int .u8 0) 1 1 Tryd.underlying28 hi hz hsz hby rfl (by decide) v xs.length (xs.map (Value.int .u8)) hs h.row ⟨g, off, none⟩ m c (ys.map (Value.int .u8)) hx (by simp [hl2]) (fun j u hj => ?_) (by simp [Value.oneCell']) (by simp only [maxLen]; omega) (by omega) hN (fun v' w' h1 h2 _ => fin v' w' (by rw [hl2]; exact h1) h2)
    have hj2 : j < ys.length := by
      have := (List.getElem?_eq_some_iff.1 hj).1
      simpa using this
    have e : (⟨g, off, none⟩ : Addr).add j = ⟨g, off + j, none⟩ := by unfold Addr.add; split <;> simp_all
    rw [e, hc j (by omega), ← hj]
    simp [List.getD_eq_getElem?_getD, hj2]
  rcases hr with rfl | ⟨g, off, rfl, -, hc⟩
  · have h0 : m = 0 := by simpa using hl2.symm
    subst h0
    cases b with
    | none =>
      obtain rfl := B.nn rfl
      exact wpList_append_own_none hgd s x 28 ho N 5 i 1 Tryd.underlying28 hi v xs.length _ hs h.row hx (k v w (by rw [List.append_nil]; exact h) (Below.refl _ _))
    | some ad =>
      exact wpList_append_own w hgd s x 28 ho N 5 i (.int .u8 0) 1 1 Tryd.underlying28 hi hz hsz hby rfl (by decide) v xs.length (xs.map (Value.int .u8)) hs h.row ad 0 c [] hx (by simp) (by simp) (by simp) (by simp only [maxLen]; omega) (by omega) hN (fun v' w' h1 h2 _ => fin v' w' (by simpa using h1) h2)
  · exact some_case g off rfl hc
end Go.Proofs.YtbfkgakkkibejaaDoor
