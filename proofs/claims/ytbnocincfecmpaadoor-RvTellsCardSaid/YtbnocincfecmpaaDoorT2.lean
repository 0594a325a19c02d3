import Derived.Test.YtbnocincfecmpaaDoorC2
import Derived.Test.YtbnocincfecmpaaDoorT1
namespace Go.Proofs.YtbnocincfecmpaaDoor
open Go.RowKit
set_option linter.unusedVariables false
set_option linter.unusedSimpArgs false
set_option linter.unusedSectionVars false

theorem hid {p : Prop} (h : p) : RowKit.Hid p := h
theorem text_out (op d s t i : Int) (h : isL op d s t i = false) (w : World) (tabs : Tabs w) :
    Calls Tryd.prog 22 #[wordV op d s t i] w fun e w' => e = .returned (.string (bs [])) ∧ Below w.heap.size w w' := by
  go_enter Tryd.func22, Tryd.ntmps22
  go_wp2_with fail
  refine (is_any _ _ _ _ _ _ (tabs.below ((Below.refl w.heap.size w).alloc (Nat.le_refl _) _))).mono ?_
  rintro e w1 ⟨rfl, b1⟩
  have hb := ((Below.refl w.heap.size w).alloc (Nat.le_refl _) _).trans (b1.mono (by simp))
  go_wp2_with fail
  all_goals go_ret
  all_goals exact ⟨rfl, hb⟩
theorem fld6_run (a b c d e f : Value) (s : Value) (w : World) : Sem.run Tryd.prog (Instr.field 77 (.agg #[a, b, c, d, e, f, s]) 6) w = .ok s w := by kernel_rfl
theorem bs_at (L : List UInt8) (i : Nat) (h : i < (bs L).size) (h' : i < L.length) : (bs L)[i]'h = L[i]'h' := rfl
theorem piece_len {d s t i : Int} (hd : 0 ≤ d ∧ d < 32) (hs : 0 ≤ s ∧ s < 32) (ht : 0 ≤ t ∧ t < 32) (hi : -2147483648 ≤ i ∧ i ≤ 2147483647) (c : UInt8) : (pieceT d s t i c).length ≤ 22 := by
  have h1 := itoa_len d (by omega) (by omega)
  have h2 := itoa_len s (by omega) (by omega)
  have h3 := itoa_len t (by omega) (by omega)
  have h4 := itoa_len i (by omega) (by omega)
  unfold pieceT
  split <;> (try split) <;> (try split) <;> (try split) <;> simp <;> omega
theorem flat_snoc {L : List UInt8} (P : UInt8 → List UInt8) (pos : Nat) (h : pos < L.length) : (L.take (pos + 1)).flatMap P = (L.take pos).flatMap P ++ P (L[pos]'h) := by
  rw [List.take_add_one, List.getElem?_eq_getElem h, List.flatMap_append]
  simp
set_option maxHeartbeats 4000000 in
theorem text_in (k : Nat) (h1 : 1 ≤ k) (h2 : k ≤ 47) (d s t i : Int) (h : okF (formN k) d s t i = true) (hi : -2147483648 ≤ i ∧ i ≤ 2147483647) (w : World) (tabs : Tabs w) :
    Calls Tryd.prog 22 #[wordV k d s t i] w fun e w' => e = .returned (.string (bs (textF (formN k) (nameL k) d s t i))) ∧ Below w.heap.size w w' := by
  have hl : isL k d s t i = true := by
    unfold isL; rw [Int.toNat_natCast, h, show decide (1 ≤ (k : Int)) = true by simp; omega, show decide ((k : Int) ≤ 47) = true by simp; omega]; rfl
  have tabs' := fun o => tabs.below ((Below.refl w.heap.size w).alloc (Nat.le_refl _) o)
  have hf := opCases h1 h2
  have hfl := fld6_run
  have hp := fun w => parts_any (formN k) (by omega) w
  have hp : ∀ w, Calls Tryd.prog 42 #[.int .i64 (formN k)] w fun e w' => e = .returned (.agg #[.bool (hasD (formN k)), .bool (hasS (formN k)), .bool (hasT (formN k)), .int .i32 (leastN (formN k)), .int .i32 (greatestN (formN k)), .int .i32 (lowN (formN k)), .string (bs (operL (formN k)))]) ∧ Below w.heap.size w w' := hp
  have hs1 := bs_size (nameL k)
  have hs2 := name_len (k := k) (by omega)
  have hap : bs (nameL k) ++ (⟨#[32]⟩ : ByteArray) = bs (nameL k ++ [32]) := bs_append _ [32]
  have hL := oper_chars (f := formN k) (by omega)
  have hL6 := oper_len (f := formN k) (by omega)
  obtain ⟨TX, htx⟩ : ∃ TX, TX = textF (formN k) (nameL k) d s t i := ⟨_, rfl⟩
  rw [← htx]
  unfold textF at htx
  generalize operL (formN k) = L at *
  have htl : (bs L).toList = L := ByteArray.toList_mk L
  have htx := hid htx
  go_enter Tryd.func22, Tryd.ntmps22
  go_wp2_with fail
  refine (is_any _ _ _ _ _ _ (tabs' _)).mono ?_
  rintro e w1 ⟨rfl, b1⟩
  have q0 : ∀ o, (w1.alloc o).cell? ⟨w.heap.size, 0, none⟩ = some (.int .i64 k) := own_cell2 b1 0 _ rfl
  have r0 : w1.cell? ⟨w.heap.size, 0, none⟩ = some (.int .i64 k) := own_cell b1 0 _ rfl
  have tabs1 := (tabs' _).below b1
  obtain ⟨c1, c2, c3⟩ := tabs1.2.1 k (by omega)
  have c1 : w1.cell? ⟨0, k * 3, none⟩ = some (.string (bs (nameL k))) := c1
  have hb := ((Below.refl w.heap.size w).alloc (Nat.le_refl _) _).trans (b1.mono (by simp))
  go_wp2_with fail
  refine (hp _).mono ?_
  rintro e w2 ⟨rfl, b2⟩
  have n0 : w2.cell? ⟨w1.heap.size, 0, none⟩ = some (.string (bs (nameL k))) := own_cell b2 0 _ rfl
  have hb2 := (hb.alloc hb.size _).trans (b2.mono (by have := hb.size; simp; omega))
  go_wp2_with fail
  · have he : L.isEmpty = true := by assumption
    have hn : L = [] := by simpa using he
    go_ret
    refine ⟨?_, hb2⟩
    rw [htx.out, if_pos hn]
    rfl
  · have he : L.isEmpty = false := by assumption
    have hn : ¬ L = [] := by simpa using he
    have htx2 := hid (htx.out.trans (if_neg hn))
    rw [he]
    clear htx hn he hap hs1 c1 c2 c3 n0 hp
    have gr : (0 ≤ d ∧ d < 32) ∧ (0 ≤ s ∧ s < 32) ∧ (0 ≤ t ∧ t < 32) := by
      have hh := h
      simp only [okF, Bool.and_eq_true] at hh
      obtain ⟨⟨⟨⟨⟨a1, a2⟩, a3⟩, -⟩, -⟩, -⟩ := hh
      have g1 := (regL_iff _ _).1 a1
      have g2 := (regL_iff _ _).1 a2
      have g3 := (regL_iff _ _).1 a3
      omega
    have hpl := fun c => piece_len gr.1 gr.2.1 gr.2.2 hi c
    have b12 := b1.trans ((b2.mono (by simp)).trans (Below.refl _ _)|> fun x => (((Below.refl w1.heap.size w1).alloc (Nat.le_refl _) _).trans x).mono b1.size)
    have m1 : w2.cell? ⟨w.heap.size, 1, none⟩ = some (.int .i64 d) := own_cell b12 1 _ rfl
    have m2 : w2.cell? ⟨w.heap.size, 2, none⟩ = some (.int .i64 s) := own_cell b12 2 _ rfl
    have m3 : w2.cell? ⟨w.heap.size, 3, none⟩ = some (.int .i64 t) := own_cell b12 3 _ rfl
    have m4 : w2.cell? ⟨w.heap.size, 4, none⟩ = some (.int .i32 i) := own_cell b12 4 _ rfl
    have ms : w.heap.size < w2.heap.size := by have := b12.size; simp at this; omega
    have tabs2 : Tabs w2 := tabs.below hb2
    clear b1 b2 b12 q0 r0 tabs1 hb hf h hl tabs'
    have x0 : (w2.iter (bs L) 0).heap[w2.heap.size]? = some (.stringIter (bs L) 0) := World.iter_heap w2 (bs L) 0
    have x1 : Below w2.heap.size w2 (w2.iter (bs L) 0) := (Below.refl w2.heap.size w2).alloc (Nat.le_refl _) _
    generalize (w2.iter (bs L) 0) = W0 at *
    go_loopw [5] (fun tt W => ∃ (pos : Nat) (tx : List UInt8), pos ≤ L.length ∧ tx.length ≤ 7 + 22 * pos ∧ tt = .string (bs tx) ∧ W.heap[w2.heap.size]? = some (.stringIter (bs L) pos) ∧ tx = nameL k ++ [32] ++ (L.take pos).flatMap (pieceT d s t i) ∧ Below w2.heap.size w2 W) (fun _ W => L.length - W.iterPos w2.heap.size)
    case atStart => exact ⟨0, nameL k ++ [32], by omega, by simp; omega, rfl, x0, by simp, x1⟩
    case round =>
      obtain ⟨pos, tx, hpos, htl2, rfl, hk, htx3, hbw⟩ := hrel
      have htx4 := hid htx3
      clear htx3 x0 x1
      have hsz := bs_size L
      have ty := bs_size tx
      rcases Nat.lt_or_ge pos L.length with hlt | hge
      · have hp : pos < (bs L).size := by rw [hsz]; exact hlt
        have hcm := hL (L[pos]'hlt) (List.getElem_mem hlt)
        have hlen := hpl (L[pos]'hlt)
        have hsn := hid (flat_snoc (pieceT d s t i) pos hlt)
        have hat := bs_at L pos hp hlt
        have hnext : ∀ ty, ((bs L)[pos]'hp).toNat < 128 → (Instr.next (.pointer (some ⟨w2.heap.size, 0, none⟩)) true ty).run Tryd.prog wr = _ := fun ty h128 => Lib.run_next_ascii_at wr w2.heap.size (bs L) pos ty hk hp h128
        rw [hat] at hnext
        clear hat
        have hk1 := Lib.iterAt_heap wr w2.heap.size (bs L) pos (pos + 1) hk
        have hbw1 : Below w2.heap.size w2 (wr.iterAt w2.heap.size (bs L) (pos + 1)) := Lib.below_iterAt hbw (by omega) (bs L) (pos + 1)
        have hmu : wr.iterPos w2.heap.size = pos := by simp [World.iterPos, hk]
        generalize wr.iterAt w2.heap.size (bs L) (pos + 1) = W1 at hnext hk1 hbw1
        have tabsW := tabs2.below hbw1
        have k1 := (hbw1.cell (p := ⟨w.heap.size, 1, none⟩) ms).trans m1
        have k2 := (hbw1.cell (p := ⟨w.heap.size, 2, none⟩) ms).trans m2
        have k3 := (hbw1.cell (p := ⟨w.heap.size, 3, none⟩) ms).trans m3
        have k4 := (hbw1.cell (p := ⟨w.heap.size, 4, none⟩) ms).trans m4
        clear m1 m2 m3 m4 hk
        generalize L[pos]'hlt = c at *
        rcases hcm with rfl | rfl | rfl | rfl | rfl | rfl | rfl
        · have hn := fun ty => hnext ty (by decide)
          clear hnext
          have hl3 : ((120 :: Lib.itoa d)).length ≤ 22 := hlen
          have hl4 := bs_size ((120 :: Lib.itoa d))
          have hap := bs_append tx ((120 :: Lib.itoa d))
          go_wp2_with fail
          refine (register_any _ (by omega) (by omega) _ tabsW).mono ?_
          rintro e W3 ⟨rfl, b3⟩
          have hk3 : W3.heap[w2.heap.size]? = some (.stringIter (bs L) (pos + 1)) := (b3.block _ (by rcases Nat.lt_or_ge w2.heap.size W1.heap.size with h | h; exact h; rw [Array.getElem?_eq_none h] at hk1; cases hk1)).trans hk1
          have hbw3 : Below w2.heap.size w2 W3 := hbw1.trans (b3.mono hbw1.size)
          go_wp2_with fail
          go_roundw
          case rel =>
            refine ⟨pos + 1, tx ++ (120 :: Lib.itoa d), by omega, by simp at hl3 ⊢; omega, rfl, hk3, ?_, hbw3⟩
            rw [hsn.out, htx4.out, ← List.append_assoc]
            rfl
          case measure =>
            have hmu2 : W3.iterPos w2.heap.size = pos + 1 := by simp [World.iterPos, hk3]
            rw [hmu, hmu2]
            omega
        · have hn := fun ty => hnext ty (by decide)
          clear hnext
          have hl3 : ((120 :: Lib.itoa s)).length ≤ 22 := hlen
          have hl4 := bs_size ((120 :: Lib.itoa s))
          have hap := bs_append tx ((120 :: Lib.itoa s))
          go_wp2_with fail
          refine (register_any _ (by omega) (by omega) _ tabsW).mono ?_
          rintro e W3 ⟨rfl, b3⟩
          have hk3 : W3.heap[w2.heap.size]? = some (.stringIter (bs L) (pos + 1)) := (b3.block _ (by rcases Nat.lt_or_ge w2.heap.size W1.heap.size with h | h; exact h; rw [Array.getElem?_eq_none h] at hk1; cases hk1)).trans hk1
          have hbw3 : Below w2.heap.size w2 W3 := hbw1.trans (b3.mono hbw1.size)
          go_wp2_with fail
          go_roundw
          case rel =>
            refine ⟨pos + 1, tx ++ (120 :: Lib.itoa s), by omega, by simp at hl3 ⊢; omega, rfl, hk3, ?_, hbw3⟩
            rw [hsn.out, htx4.out, ← List.append_assoc]
            rfl
          case measure =>
            have hmu2 : W3.iterPos w2.heap.size = pos + 1 := by simp [World.iterPos, hk3]
            rw [hmu, hmu2]
            omega
        · have hn := fun ty => hnext ty (by decide)
          clear hnext
          have hl3 : ((120 :: Lib.itoa t)).length ≤ 22 := hlen
          have hl4 := bs_size ((120 :: Lib.itoa t))
          have hap := bs_append tx ((120 :: Lib.itoa t))
          go_wp2_with fail
          refine (register_any _ (by omega) (by omega) _ tabsW).mono ?_
          rintro e W3 ⟨rfl, b3⟩
          have hk3 : W3.heap[w2.heap.size]? = some (.stringIter (bs L) (pos + 1)) := (b3.block _ (by rcases Nat.lt_or_ge w2.heap.size W1.heap.size with h | h; exact h; rw [Array.getElem?_eq_none h] at hk1; cases hk1)).trans hk1
          have hbw3 : Below w2.heap.size w2 W3 := hbw1.trans (b3.mono hbw1.size)
          go_wp2_with fail
          go_roundw
          case rel =>
            refine ⟨pos + 1, tx ++ (120 :: Lib.itoa t), by omega, by simp at hl3 ⊢; omega, rfl, hk3, ?_, hbw3⟩
            rw [hsn.out, htx4.out, ← List.append_assoc]
            rfl
          case measure =>
            have hmu2 : W3.iterPos w2.heap.size = pos + 1 := by simp [World.iterPos, hk3]
            rw [hmu, hmu2]
            omega
        · have hn := fun ty => hnext ty (by decide)
          clear hnext
          have hl3 : (Lib.itoa i).length ≤ 22 := hlen
          have hl4 := bs_size (Lib.itoa i)
          have hap := bs_append tx (Lib.itoa i)
          go_wp2_with fail
          refine (itoa_bs _ (by omega) (by omega) _ tabsW).mono ?_
          rintro e W3 ⟨rfl, b3⟩
          have hk3 : W3.heap[w2.heap.size]? = some (.stringIter (bs L) (pos + 1)) := (b3.block _ (by rcases Nat.lt_or_ge w2.heap.size W1.heap.size with h | h; exact h; rw [Array.getElem?_eq_none h] at hk1; cases hk1)).trans hk1
          have hbw3 : Below w2.heap.size w2 W3 := hbw1.trans (b3.mono hbw1.size)
          go_wp2_with fail
          go_roundw
          case rel =>
            refine ⟨pos + 1, tx ++ Lib.itoa i, by omega, by simp at hl3 ⊢; omega, rfl, hk3, ?_, hbw3⟩
            rw [hsn.out, htx4.out, ← List.append_assoc]
            rfl
          case measure =>
            have hmu2 : W3.iterPos w2.heap.size = pos + 1 := by simp [World.iterPos, hk3]
            rw [hmu, hmu2]
            omega
        · have hn := fun ty => hnext ty (by decide)
          clear hnext
          have hl3 : ([44] : List UInt8).length ≤ 22 := by decide
          have hu : Utf8.encode 44 = bs [44] := by kernel_rfl
          have hl4 := bs_size [44]
          have hap := bs_append tx [44]
          go_wp2_with fail
          go_roundw
          case rel =>
            refine ⟨pos + 1, tx ++ [44], by omega, by simp at hl3 ⊢; omega, rfl, hk1, ?_, hbw1⟩
            rw [hsn.out, htx4.out, ← List.append_assoc]
            rfl
          case measure =>
            have hmu2 : W1.iterPos w2.heap.size = pos + 1 := by simp [World.iterPos, hk1]
            rw [hmu, hmu2]
            omega
        · have hn := fun ty => hnext ty (by decide)
          clear hnext
          have hl3 : ([40] : List UInt8).length ≤ 22 := by decide
          have hu : Utf8.encode 40 = bs [40] := by kernel_rfl
          have hl4 := bs_size [40]
          have hap := bs_append tx [40]
          go_wp2_with fail
          go_roundw
          case rel =>
            refine ⟨pos + 1, tx ++ [40], by omega, by simp at hl3 ⊢; omega, rfl, hk1, ?_, hbw1⟩
            rw [hsn.out, htx4.out, ← List.append_assoc]
            rfl
          case measure =>
            have hmu2 : W1.iterPos w2.heap.size = pos + 1 := by simp [World.iterPos, hk1]
            rw [hmu, hmu2]
            omega
        · have hn := fun ty => hnext ty (by decide)
          clear hnext
          have hl3 : ([41] : List UInt8).length ≤ 22 := by decide
          have hu : Utf8.encode 41 = bs [41] := by kernel_rfl
          have hl4 := bs_size [41]
          have hap := bs_append tx [41]
          go_wp2_with fail
          go_roundw
          case rel =>
            refine ⟨pos + 1, tx ++ [41], by omega, by simp at hl3 ⊢; omega, rfl, hk1, ?_, hbw1⟩
            rw [hsn.out, htx4.out, ← List.append_assoc]
            rfl
          case measure =>
            have hmu2 : W1.iterPos w2.heap.size = pos + 1 := by simp [World.iterPos, hk1]
            rw [hmu, hmu2]
            omega
      · have hnext : ∀ ty, (Instr.next (.pointer (some ⟨w2.heap.size, 0, none⟩)) true ty).run Tryd.prog wr = _ := fun ty => Lib.run_next_end_at wr w2.heap.size (bs L) pos ty hk (by rw [hsz]; omega)
        have hpe : pos = L.length := by omega
        go_wp2_with fail
        go_ret
        refine ⟨?_, hb2.trans (hbw.mono hb2.size)⟩
        rw [htx2.out, htx4.out, List.take_of_length_le (by omega)]
        rfl
end Go.Proofs.YtbnocincfecmpaaDoor
