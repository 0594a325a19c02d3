import Derived.Test.YtmjheiedoihohaaDoorF4
namespace Go.Proofs.YtmjheiedoihohaaDoor
open Go.RowKit
set_option linter.unusedVariables false

def digits16 : ByteArray := ⟨#[48, 49, 50, 51, 52, 53, 54, 55, 56, 57, 97, 98, 99, 100, 101, 102]⟩
theorem extract_fin : ∀ i : Fin 16, digits16.extract i.val (i.val + 1) = bytesOf [dig i.val] := by decide +kernel
theorem slice_str (v : Nat) (W : World) : (Instr.slice 9 (.string ⟨#[48, 49, 50, 51, 52, 53, 54, 55, 56, 57, 97, 98, 99, 100, 101, 102]⟩) (some (.int .u64 ((v : Int) % 16))) (some (.int .u64 ((v : Int) % 16 + 1))) none).run Tryd.prog W = .ok (.string (bytesOf [dig (v % 16)])) W := by
  have hs : digits16.size = 16 := by decide +kernel
  have h := run_slice_string (P := Tryd.prog) W 9 digits16 .u64 .u64 ((v : Int) % 16) ((v : Int) % 16 + 1) (by kernel_rfl) (by omega) (by omega) (by rw [hs]; omega)
  rw [show ((v : Int) % 16).toNat = v % 16 by omega, show ((v : Int) % 16 + 1).toNat = v % 16 + 1 by omega, extract_fin ⟨v % 16, by omega⟩] at h
  exact h
theorem bytesOf_append (a b : List Nat) : bytesOf a ++ bytesOf b = bytesOf (a ++ b) := by
  unfold bytesOf
  apply ByteArray.ext
  simp
theorem rtext_any (a : Nat) (ha : a < 18446744073709551616) (w : World) : Calls Tryd.prog 24 #[.int .u64 a] w fun e w' =>
    e = .returned (.string (textN a)) ∧ Below w.heap.size w w' := by
  have hk := kind4 a
  have x1 := hid (textN_nan (a := a))
  have x2 := hid (textN_inf (a := a))
  have x3 := hid (textN_fin (a := a))
  generalize textN a = X at *
  go_enter Tryd.func24, Tryd.ntmps24
  go_wp2_with fail
  refine (rkind_any a ha _).mono ?_
  rintro e w' ⟨rfl, rfl⟩
  go_wp2_with fail
  · rw [x1.out (by assumption)]
    go_ret
    exact ⟨rfl, Below.refl _ _⟩
  · have x9 := x2.out (by assumption) (by assumption)
    rw [x9, show minusN a = ⟨#[45]⟩ by unfold minusN; rw [if_neg (by simp at *; omega)]]
    go_ret
    exact ⟨rfl, Below.refl _ _⟩
  · have x9 := hid (x3.out (by assumption) (by assumption))
    have xm := hid (show minusN a = ⟨#[45]⟩ by unfold minusN; rw [if_neg (by simp at *; omega)])
    go_loop [6, 7] (fun hh mm => ∃ (v : Nat) (l : List Nat), l.length ≤ 15 ∧ v < 16 ^ (16 - l.length) ∧ hh = .string (bytesOf l) ∧ mm = .int .u64 v ∧ hexL (absN a) = hexL v ++ l) (fun _ mm => (intOf mm).toNat)
    case atStart => exact ⟨absN a, [], by simp, Nat.lt_trans (absN_lt a) (by decide), rfl, by rw [IntKind.wrap_u64]; congr 1; unfold absN; omega, by simp⟩
    case round =>
      obtain ⟨v, l, hl, hv, rfl, rfl, hx⟩ := hrel
      have hand := and15 v (Nat.lt_of_lt_of_le hv (Nat.le_trans (Nat.pow_le_pow_right (by decide) (show 16 - l.length ≤ 16 by omega)) (by decide)))
      have hx' := hid hx
      have hsl := slice_str v w
      have hs1 := bytesOf_size [dig (v % 16)]
      have hs2 := bytesOf_size l
      have hap := bytesOf_append [dig (v % 16)] l
      rw [List.singleton_append] at hap
      have hs3 := bytesOf_size (dig (v % 16) :: l)
      simp only [List.length_cons, List.length_nil] at hs1 hs3
      clear hx
      go_wp2
      · have h16 : v < 16 := by omega
        go_ret
        refine ⟨ret_string ?_, Below.refl _ _⟩
        rw [x9.out, xm.out, hx'.out, hexL_lo h16, show v % 16 = v by omega]
        rfl
      · have h16 : 16 ≤ v := by omega
        go_round
        case rel =>
          have hl2 : l.length < 15 := by
            rcases Nat.lt_or_ge l.length 15 with h | h
            · exact h
            · rw [show 16 - l.length = 1 by omega] at hv; omega
          refine ⟨v / 16, dig (v % 16) :: l, by simp; omega, ?_, rfl, by simp, ?_⟩
          · rw [List.length_cons]
            rw [show 16 - l.length = 16 - (l.length + 1) + 1 by omega, Nat.pow_succ] at hv
            omega
          · rw [hx'.out, hexL_hi h16]; simp
        case measure => simp [intOf]; omega
  · have x9 := x2.out (by assumption) (by assumption)
    rw [x9, show minusN a = ⟨#[]⟩ by unfold minusN; rw [if_pos (by simp at *; omega)]]
    go_ret
    exact ⟨rfl, Below.refl _ _⟩
  · have x9 := hid (x3.out (by assumption) (by assumption))
    have xm := hid (show minusN a = ⟨#[]⟩ by unfold minusN; rw [if_pos (by simp at *; omega)])
    go_loop [6, 7] (fun hh mm => ∃ (v : Nat) (l : List Nat), l.length ≤ 15 ∧ v < 16 ^ (16 - l.length) ∧ hh = .string (bytesOf l) ∧ mm = .int .u64 v ∧ hexL (absN a) = hexL v ++ l) (fun _ mm => (intOf mm).toNat)
    case atStart => exact ⟨absN a, [], by simp, Nat.lt_trans (absN_lt a) (by decide), rfl, by rw [IntKind.wrap_u64]; congr 1; unfold absN; omega, by simp⟩
    case round =>
      obtain ⟨v, l, hl, hv, rfl, rfl, hx⟩ := hrel
      have hand := and15 v (Nat.lt_of_lt_of_le hv (Nat.le_trans (Nat.pow_le_pow_right (by decide) (show 16 - l.length ≤ 16 by omega)) (by decide)))
      have hx' := hid hx
      have hsl := slice_str v w
      have hs1 := bytesOf_size [dig (v % 16)]
      have hs2 := bytesOf_size l
      have hap := bytesOf_append [dig (v % 16)] l
      rw [List.singleton_append] at hap
      have hs3 := bytesOf_size (dig (v % 16) :: l)
      simp only [List.length_cons, List.length_nil] at hs1 hs3
      clear hx
      go_wp2
      · have h16 : v < 16 := by omega
        go_ret
        refine ⟨ret_string ?_, Below.refl _ _⟩
        rw [x9.out, xm.out, hx'.out, hexL_lo h16, show v % 16 = v by omega]
        rfl
      · have h16 : 16 ≤ v := by omega
        go_round
        case rel =>
          have hl2 : l.length < 15 := by
            rcases Nat.lt_or_ge l.length 15 with h | h
            · exact h
            · rw [show 16 - l.length = 1 by omega] at hv; omega
          refine ⟨v / 16, dig (v % 16) :: l, by simp; omega, ?_, rfl, by simp, ?_⟩
          · rw [List.length_cons]
            rw [show 16 - l.length = 16 - (l.length + 1) + 1 by omega, Nat.pow_succ] at hv
            omega
          · rw [hx'.out, hexL_hi h16]; simp
        case measure => simp [intOf]; omega
end Go.Proofs.YtmjheiedoihohaaDoor
