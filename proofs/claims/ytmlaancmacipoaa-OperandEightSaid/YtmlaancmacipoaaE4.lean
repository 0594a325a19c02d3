/- OperandEight: the calls that it makes, over both memories. -/
import Derived.Test.YtmlaancmacipoaaE2
import Derived.Test.YtmlaancmacipoaaE3
import Derived.Test.YtmlaancmacipoaaH3
namespace Go.Proofs.Ytmlaancmacipoaa
open Go.RowKit
set_option linter.unusedVariables false
set_option linter.unusedSimpArgs false
set_option linter.unusedSectionVars false

set_option maxRecDepth 8000 in
theorem few_any {w : World} (x : Option Addr) (len cap : Nat) (L : List Sp) (hs : SpansAt w x len L) (hlen : len ≤ 9223372036854775807) :
    Calls Try.prog 9 #[.slice x len cap] w fun e w' => (∃ q, e = .returned (.bool q)) ∧ w = w' := by
  go_enter Try.func9, Try.ntmps9
  go_wp2_with fail
  go_loopw [3] (fun ii W => ∃ k : Nat, k ≤ len ∧ ii = .int .i64 k ∧ W = w) (fun ii _ => (len - intOf ii).toNat)
  case atStart => exact ⟨0, by omega, rfl, rfl⟩
  case round =>
    obtain ⟨k, hk, rfl, rfl⟩ := hrel
    by_cases hlt : k < len
    · obtain ⟨hl, hb, h3⟩ := hs
      rcases h3 with h3 | ⟨b, off, hx, hbl, hc⟩
      · subst h3; simp at hl; omega
      · subst hx
        have hg : L[k]? = some L[k] := List.getElem?_eq_getElem (by omega)
        obtain ⟨-, -, -, d3⟩ := hc k _ hg
        have hz := (hb L[k] (List.getElem_mem _)).2
        have hix := ix_span b off len cap k hlt
        generalize L[k] = y at *
        clear hc hg hb hl
        by_cases hy : (3000 : Int) < (y.s.size : Int)
        · go_wp2_with fail
          go_ret
          exact ⟨⟨_, rfl⟩, rfl⟩
        · go_wp2_with fail
          go_roundw
          case rel => exact ⟨k + 1, by omega, by go_num, trivial⟩
          case measure => simp [intOf]; omega
    · obtain rfl : k = len := by omega
      go_wp2_with fail
      go_ret
      exact ⟨⟨_, rfl⟩, rfl⟩
theorem SpansAt.up {w w' : World} {x : Option Addr} {len : Nat} {L : List Sp} (h : SpansAt w x len L) (b : Below w.heap.size w w') : SpansAt w' x len L := h.below b (Nat.le_refl _)
set_option maxHeartbeats 2000000 in
set_option maxRecDepth 8000 in
theorem both_any {w : World} (x : Option Addr) (len cap : Nat) (L : List Sp) (hs : SpansAt w x len L) (hlen : len ≤ 9223372036854775807) :
    Calls Try.prog 8 #[.slice x len cap] w fun e w' => ∃ B R q, e = .returned (.tuple #[mp B, mp R, .bool q]) ∧ Below w.heap.size w w' ∧ (q = true → ∃ m, w.heap.size ≤ B ∧ w.heap.size ≤ R ∧ Bp w'.heap.size w' w' B R m m) := by
  go_enter Try.func8, Try.ntmps8
  go_wp2_with fail
  refine (New_any _).mono ?_
  rintro e w2 ⟨rfl, h2, k2⟩
  obtain ⟨Z, hZ, hcZ, hne⟩ := zero_ref
  have s2 := h2.lt
  have hx : RAt (w2.alloc (.cells Z 64)) w2.heap.size Mm.new := ⟨_, alloc_new _ _, hcZ⟩
  have kx : Below w2.heap.size w2 (w2.alloc (.cells Z 64)) := (Below.refl _ _).alloc (Nat.le_refl _) _
  go_upto_region 2 with fail
  generalize w2.alloc (.cells Z 64) = w3 at *
  clear hZ hcZ hne
  have hp := h2.below kx h2.lt
  have kk : Below w.heap.size w w3 := k2.trans (kx.mono k2.size)
  have hBw : w.heap.size < w2.heap.size := s2
  have hRw : w2.heap.size < w3.heap.size := hx.lt
  clear h2 k2 kx s2
  generalize hR : w2.heap.size = R at *
  generalize hB : w.heap.size = B at *
  clear hR
  have qL := Lib.hid (Load_any hp x len cap L ((hs.below kk (by omega))) hlen)
  cases hL : loadL L Mm.new with
  | none =>
    rw [hL] at qL
    go_wp2_with ((with_reducible refine qL.out.mono ?_); rintro e w4 ⟨rfl, p4, b4⟩)
    refine bodyPost_ret (v := .tuple #[mp B, mp R, .bool false]) (by simp [results, Try.results8, go_sem]) rfl ?_
    subst hB
    exact ⟨_, R, false, rfl, kk.trans (b4.below (by omega) (by simp)), fun h => by cases h⟩
  | some m =>
    rw [hL] at qL
    have okm := loadL_ok L new_okM hL
    have hq : ∀ W, But [B] w3.heap.size w3 W → Calls Try.prog 22 #[mp R, .slice x len cap] W fun e w' => e = .returned (.int .i64 0) ∧ RAt w' R m ∧ But [R] W.heap.size W w' := by
      intro W hW
      have h5 := rLoad (hx.but hW hx.lt (by simp <;> omega)) x len cap L ((hs.below (kk.trans (hW.below (by omega) (by simp <;> omega))) (by omega))) hlen
      rw [hL] at h5
      exact h5
    have hq' := Lib.hid hq
    clear hq
    go_wp2_with (first | ((with_reducible refine qL.out.mono ?_); rintro e w4 ⟨rfl, p4, b4⟩) | ((with_reducible refine (hq'.out _ b4).mono ?_); rintro e w5 ⟨rfl, r5, b5⟩))
    refine bodyPost_ret (v := .tuple #[mp B, mp R, .bool true]) (by simp [results, Try.results8, go_sem]) rfl ?_
    subst hB
    refine ⟨_, R, true, rfl, (kk.trans (b4.below (by omega) (by simp))).trans (b5.below (by have := b4.size; omega) (by simp; omega)), fun _ => ⟨m, Nat.le_refl _, by omega, ⟨p4.but b5 p4.lt (by simp; omega), r5, okm, okm, But.refl _ _ _, by omega, Nat.le_refl _⟩⟩⟩
section
variable {n0 : Nat} {w0 w : World} {B R : Nat} {m t : Mm}
theorem bLacks (b : Bp n0 w0 w B R m t) (A : Nat) (hA : A ≤ 4294967295) (r : Int) (hr : r = 1 ∨ r = 2 ∨ r = 4) : Calls Try.prog 10 #[mp R, .int .u32 A, .int .i64 8, .int .i64 r] w fun e w' => e = .returned (.tuple #[fltOf (lackL t A r 8) A r, .bool (lackL t A r 8).isSome]) ∧ Bp n0 w0 w' B R m t ∧ Below w.heap.size w w' := by
  cases hl : lackL t A r 8 with
  | none => exact (rLacks_none b.r b.ok2 A 8 hA r hr (by decide) hl).mono fun e w' h => ⟨h.1, b.below h.2, h.2⟩
  | some j => exact (rLacks_some b.r b.ok2 A 8 j hA r hr (by decide) hl).mono fun e w' h => ⟨h.1, b.below h.2, h.2⟩
theorem bWrite8_yes (b : Bp n0 w0 w B R m t) (A : Nat) (hA : A ≤ 4294967295) (v : Int) (hv : 0 ≤ v ∧ v ≤ 18446744073709551615) (hl : lackL m A 2 8 = none) : Calls Try.prog 11 #[mp B, .int .u32 A, .int .u64 v] w fun e w' => e = .returned (.tuple #[fltV 0 0 0 0, .bool true]) ∧ Bp n0 w0 w' B R (w8S m A v) t ∧ But [B] w.heap.size w w' :=
  (Write8_yes b.h b.ok A hA v hv hl).mono fun e w' h => ⟨h.1, b.page h.2.1 (w8S_ok b.ok hA v hl) h.2.2, h.2.2⟩
theorem bWrite8_no (b : Bp n0 w0 w B R m t) (A : Nat) (hA : A ≤ 4294967295) (v : Int) {j : Nat} (hl : lackL m A 2 8 = some j) : Calls Try.prog 11 #[mp B, .int .u32 A, .int .u64 v] w fun e w' => e = .returned (.tuple #[fltV 1 0 ((A + j) % 4294967296) 2, .bool false]) ∧ Bp n0 w0 w' B R m t ∧ Below w.heap.size w w' := by
  obtain ⟨h1, h2, h3⟩ := lack_some hl
  have hy := lk_yes b.ok h2
  have q := Write8_no b.h b.ok A v (by omega) j h1 (fun i hi => lk_no b.ok (h3 i hi)) (by rw [hy]; decide)
  rw [hy, kn7.2.2.1] at q
  exact q.mono fun e w' h => ⟨h.1, b.below h.2, h.2⟩
theorem bRead8_yes (b : Bp n0 w0 w B R m t) (A : Nat) (hA : A ≤ 4294967295) (hl : lackL m A 1 8 = none) : Calls Try.prog 13 #[mp B, .int .u32 A] w fun e w' => e = .returned (.tuple #[.int .u64 (up8 (readL m A 4) (readL m (A + 4) 4)), fltV 0 0 0 0, .bool true]) ∧ Bp n0 w0 w' B R m t ∧ Below w.heap.size w w' :=
  (Read8_yes b.h b.ok A hA hl).mono fun e w' h => ⟨h.1, b.below h.2, h.2⟩
theorem bRead8_no (b : Bp n0 w0 w B R m t) (A : Nat) (hA : A ≤ 4294967295) {j : Nat} (hl : lackL m A 1 8 = some j) : Calls Try.prog 13 #[mp B, .int .u32 A] w fun e w' => e = .returned (.tuple #[.int .u64 0, fltV 1 0 ((A + j) % 4294967296) 1, .bool false]) ∧ Bp n0 w0 w' B R m t ∧ Below w.heap.size w w' :=
  (Read8_no b.h b.ok A hA j hl).mono fun e w' h => ⟨h.1, b.below h.2, h.2⟩
end
theorem or_up {lo hi : Int} (h1 : 0 ≤ lo ∧ lo < 4294967296) (h2 : 0 ≤ hi ∧ hi < 4294967296) : up8 lo hi = hi * 4294967296 + lo := by
  obtain ⟨a, rfl⟩ := Int.eq_ofNat_of_zero_le h1.1
  obtain ⟨b, rfl⟩ := Int.eq_ofNat_of_zero_le h2.1
  unfold up8
  have e : ((b : Int) * 4294967296) = ((b * 4294967296 : Nat) : Int) := by omega
  rw [e]
  have hb : b < 4294967296 := by omega
  have ha : a < 4294967296 := by omega
  rw [u64_or_nat _ _ (by omega) (by omega)]
  have e2 : b * 4294967296 ||| a = b * 4294967296 + a := by
    have := Nat.shiftLeft_add_eq_or_of_lt (i := 32) (b := a) (by omega) b
    rw [Nat.shiftLeft_eq] at this
    exact this.symm
  rw [e2]; omega
theorem read_w4 (m : Mm) (A : Nat) (v : Int) (hv : 0 ≤ v ∧ v < 4294967296) : readL (wroteS m A 4 v) A 4 = v := by
  have hb := fun i h => bytes_there m A 4 v i h
  have b0 := hb 0 (by decide)
  have b1 := hb 1 (by decide)
  have b2 := hb 2 (by decide)
  have b3 := hb 3 (by decide)
  simp only [readL, b0, b1, b2, b3]
  omega
theorem read_w8 (m : Mm) (A : Nat) (v : Int) (hv : 0 ≤ v ∧ v ≤ 18446744073709551615) : up8 (readL (w8S m A v) A 4) (readL (w8S m A v) (A + 4) 4) = v := by
  have h2 : readL (w8S m A v) (A + 4) 4 = v / 4294967296 := read_w4 _ (A + 4) _ (by omega)
  have h1 : readL (w8S m A v) A 4 = v % 4294967296 := by
    have : ∀ n, n ≤ 4 → readL (w8S m A v) A n = readL (wroteS m A 4 (v % 4294967296)) A n := by
      intro n
      induction n with
      | zero => intro _; rfl
      | succ n ih =>
        intro hn
        unfold readL
        rw [ih (by omega)]
        congr 2
        show (putB _ (A + 4) _).b (A + n) = _
        simp only [putB]
        rw [if_neg (by omega)]
    rw [this 4 (by omega)]
    exact read_w4 m A _ (by omega)
  rw [h1, h2, or_up (by omega) (by omega)]
  omega
end Go.Proofs.Ytmlaancmacipoaa
