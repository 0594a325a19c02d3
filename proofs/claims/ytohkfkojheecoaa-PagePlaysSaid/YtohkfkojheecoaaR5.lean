/- The document's memory: bytes poked and peeked. -/
import Derived.Test.YtohkfkojheecoaaR1
import Derived.Test.YtohkfkojheecoaaP3
import Derived.Laws.AppendOwn
namespace Go.Proofs.Ytohkfkojheecoaa
open Go.RowKit
set_option linter.unusedVariables false
set_option linter.unusedSimpArgs false
set_option linter.unusedSectionVars false

theorem putB_step (m : Mm) (A : Nat) (zs : List Int) (k : Nat) (hk : k < zs.length) : putB m A (zs.take (k + 1)) = ⟨m.r, fun i => if i = A + k then zs.getD k 0 else (putB m A (zs.take k)).b i⟩ := by
  unfold putB
  congr 1
  funext i
  rw [List.length_take, List.length_take, Nat.min_eq_left (by omega), Nat.min_eq_left (by omega)]
  dsimp only
  by_cases h1 : i = A + k
  · subst h1
    rw [if_pos (by omega), if_pos rfl, Nat.add_sub_cancel_left]
    simp [List.getD_eq_getElem?_getD, List.getElem?_take]
  · rw [if_neg h1]
    by_cases h2 : A ≤ i ∧ i < A + k
    · rw [if_pos (by omega), if_pos h2]
      simp [List.getD_eq_getElem?_getD, List.getElem?_take, show i - A < k by omega, show i - A < k + 1 by omega]
    · rw [if_neg (by omega), if_neg h2]
set_option maxHeartbeats 1000000 in
set_option maxRecDepth 8000 in
theorem rPoke {R : Nat} {m : Mm} {w : World} (h : RAt w R m) (ok : m.ok) (a : Int) (ha : U32 a) (x : Option Addr) (len cap : Nat) (zs : List Int) (hr : Row8 w x len zs) (hl : len ≤ 9223372036854775807) (hx : 0 < len → ∀ b off, x = some ⟨b, off, none⟩ → b ≠ R) :
    Calls Try.prog 30 #[mp R, .int .u32 a, .slice x len cap] w fun e w' => e = .returned (.int .i64 (errM (pokeE m a zs))) ∧ RAt w' R (pokeS m a zs) ∧ But [R] w.heap.size w w' := by
  obtain ⟨rfl, hz, h3⟩ := hr
  have hx' := hid hx
  have h3' := hid h3
  clear hx h3
  go_enter Try.func30, Try.ntmps30
  go_wp2_with fail
  go_loopw [7] (fun ii W => ∃ k : Nat, k ≤ zs.length ∧ ii = .int .i64 k ∧ mappedL m a k = k ∧ W = w) (fun ii _ => (zs.length - intOf ii).toNat)
  case atStart => exact ⟨0, by omega, rfl, rfl, rfl⟩
  case round =>
    obtain ⟨k, hk, rfl, hm, rfl⟩ := hrel
    have hm' := hid hm
    by_cases hlt : k < zs.length
    · have hq := rRight h ok ((a + k) % 4294967296) (by omega)
      obtain ⟨K, hK⟩ : ∃ K : Int, (k : Int) = K := ⟨_, rfl⟩
      have hKl : K < (zs.length : Int) := by omega
      have hK0 : 0 ≤ K := by omega
      by_cases hz0 : placeL m ((a + k) % 4294967296) = 0
      · have hs : mappedL m a zs.length = k := mapped_stop hm hz0 _ hk
        have hE : Hid (pokeE m a zs = false) := hid (by unfold pokeE; rw [hs]; exact decide_eq_false (by omega))
        rw [hz0] at hq
        rw [hK] at hq ⊢
        clear hz0 hs hm hK hm' hk hlt
        by_cases hbig : 16384 ≤ K
        · go_wp2_with fail
          go_ret
          unfold pokeS
          rw [hE.out, if_neg (by decide)]
          exact ⟨rfl, h, But.refl _ _ _⟩
        · go_wp2_with fail
          go_at_call 33
          refine hq.mono ?_
          rintro e w' ⟨rfl, rfl⟩
          go_wp2_with fail
          go_ret
          unfold pokeS
          rw [hE.out, if_neg (by decide)]
          exact ⟨rfl, h, But.refl _ _ _⟩
      · have hg : mappedL m a (k + 1) = k + 1 := mapped_go hm hz0
        have hend := mapped_end ok ha hg (by omega)
        have hg' := hid hg
        generalize placeL m ((a + k) % 4294967296) = y at *
        have hK16 : K < 16384 := by omega
        have hd16 : decide (16384 ≤ K) = false := decide_eq_false (by omega)
        have hy0 : (y == 0) = false := by simpa using hz0
        have haK : a + K ≤ 16384 := by omega
        rw [Int.emod_eq_of_lt (by omega) (by omega)] at hq
        rw [hK] at hq ⊢
        have hK' := hid hK
        have hlt' := hid hlt
        clear hg hm hK hm' hk hend hlt
        go_wp2_with fail
        go_at_call 33
        refine hq.mono ?_
        rintro e w' ⟨rfl, rfl⟩
        go_wp2_with fail
        go_roundw
        case rel => exact ⟨k + 1, by have := hlt'.out; omega, by have := hK'.out; rw [← this]; go_num, hg'.out, trivial⟩
        case measure => simp [intOf]; omega
    · have hkl : k = zs.length := by omega
      have hE : pokeE m a zs = true := by unfold pokeE; rw [← hkl]; exact decide_eq_true hm
      have hS : Hid (pokeS m a zs = putB m a.toNat zs) := hid (by unfold pokeS; rw [hE, if_pos rfl])
      have hE' := hid hE
      clear hE
      subst hkl
      have hend : Hid (zs.length = 0 ∨ a + zs.length ≤ 16384) := hid (by
        by_cases h0 : zs.length = 0
        · exact .inl h0
        · exact .inr (mapped_end ok ha hm (by omega)))
      clear hm hm'
      go_wp2_with fail
      go_loopw [8] (fun ii W => ∃ k : Nat, k ≤ zs.length ∧ ii = .int .i64 k ∧ RAt W R (putB m a.toNat (zs.take k)) ∧ But [R] wr.heap.size wr W) (fun ii _ => (zs.length - intOf ii).toNat)
      case atStart => exact ⟨0, by omega, rfl, by rw [List.take_zero, putB_nil]; exact h, But.refl _ _ _⟩
      case round =>
        obtain ⟨k, hk, rfl, hp, kp⟩ := hrel
        by_cases hlt : k < zs.length
        · rcases h3'.out with h3 | ⟨b, off, rfl, hb, hc⟩
          · subst h3; simp at hlt
          · have hle : a + zs.length ≤ 16384 := by have := hend.out; omega
            obtain ⟨A, rfl⟩ := Int.eq_ofNat_of_zero_le ha.1
            rw [Int.toNat_natCast] at hp
            have hbR := hx'.out (by omega) b off rfl
            have hsrc : wr.cell? ⟨b, off + k, none⟩ = some (.int .u8 (zs.getD k 0)) := by
              have hbl := kp.block b hb (by simpa using hbR)
              have := hc k hlt
              simp only [World.cell?, hbl] at this ⊢
              exact this
            have hcell := hp.b (A + k) (by omega)
            have hf := hp.fr (64 + (A + k))
            have hix := ixB R (A + k) (by omega) .u32
            rw [show ((A + k : Nat) : Int) = (A : Int) + k by omega] at hix
            have hx2 : RAt (wr.setCell ⟨R, 64 + (A + k), none⟩ (.int .u8 (zs.getD k 0))) R (putB m A (zs.take (k + 1))) := hp.set (64 + (A + k)) _ _ fun cs c => by
              refine c.set_b (A + k) (by omega) _ _ rfl (fun j => ?_)
              rw [putB_step m A zs k hlt]
            have kx2 := kp.setCell (p := ⟨R, 64 + (A + k), none⟩) (by simp) (.int .u8 (zs.getD k 0))
            have hbk : 0 ≤ zs.getD k 0 ∧ zs.getD k 0 ≤ 255 := getD_bd hz k
            generalize zs.getD k 0 = z at *
            generalize (putB m A (zs.take k)).b (A + k) = z0 at *
            clear hc hz hp kp
            go_wp2_with fail
            go_region
            replace hx2 := hx2.drew
            replace kx2 := kx2.drew
            generalize (wr.setCell ⟨R, 64 + (A + k), none⟩ (.int .u8 z)).drew = w9 at *
            clear hcell hsrc hf hix
            go_wp2_with fail
            go_roundw
            case rel => exact ⟨k + 1, by omega, by go_num, by rw [Int.toNat_natCast]; exact hx2, kx2⟩
            case measure => simp [intOf]; omega
        · obtain rfl : k = zs.length := by omega
          rw [List.take_length] at hp
          go_wp2_with fail
          go_ret
          rw [hE'.out, hS.out]
          exact ⟨rfl, hp, kp⟩
end Go.Proofs.Ytohkfkojheecoaa
