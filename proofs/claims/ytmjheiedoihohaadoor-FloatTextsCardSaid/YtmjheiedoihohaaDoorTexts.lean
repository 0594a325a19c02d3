import Derived.Test.YtmjheiedoihohaaDoorF6
import Derived.Test.YtmjheiedoihohaaDoorM4
import Derived.Test.YtmjheiedoihohaaDoorWf
namespace Go.Proofs.YtmjheiedoihohaaDoor
open Go.RowKit
set_option linter.unusedVariables false

def undig (c : Nat) : Nat := if c < 58 then c - 48 else c - 87
def valB (l : List UInt8) : Nat := l.foldl (fun acc c => 16 * acc + undig c.toNat) 0
theorem undig_fin : ∀ d : Fin 16, undig (UInt8.ofNat (dig d.val)).toNat = d.val := by decide
theorem digs_fin : ∀ d : Fin 16, UInt8.ofNat (dig d.val) ≠ 45 ∧ UInt8.ofNat (dig d.val) ≠ 105 ∧ UInt8.ofNat (dig d.val) ≠ 110 := by decide
def hexB (m : Nat) : List UInt8 := (hexL m).map UInt8.ofNat
theorem hexB_lo {m : Nat} (h : m < 16) : hexB m = [UInt8.ofNat (dig m)] := by unfold hexB; rw [hexL_lo h]; rfl
theorem hexB_hi {m : Nat} (h : 16 ≤ m) : hexB m = hexB (m / 16) ++ [UInt8.ofNat (dig (m % 16))] := by unfold hexB; rw [hexL_hi h, List.map_append]; rfl
theorem val_hex (m : Nat) : valB (hexB m) = m := by
  induction m using Nat.strongRecOn with
  | _ m ih =>
    rcases Nat.lt_or_ge m 16 with h | h
    · rw [hexB_lo h]
      unfold valB
      simp only [List.foldl_cons, List.foldl_nil]
      rw [undig_fin ⟨m, h⟩]
      simp
    · have := ih (m / 16) (by omega)
      rw [hexB_hi h]
      unfold valB at *
      rw [List.foldl_append, this]
      simp only [List.foldl_cons, List.foldl_nil]
      rw [undig_fin ⟨m % 16, Nat.mod_lt _ (by decide)⟩]
      simp only
      omega
theorem head_hex (m : Nat) : ∃ c t, hexB m = c :: t ∧ c ≠ 45 ∧ c ≠ 105 ∧ c ≠ 110 := by
  induction m using Nat.strongRecOn with
  | _ m ih =>
    rcases Nat.lt_or_ge m 16 with h | h
    · exact ⟨_, [], hexB_lo h, digs_fin ⟨m, h⟩⟩
    · obtain ⟨c, t, e, hc⟩ := ih (m / 16) (by omega)
      exact ⟨c, t ++ [UInt8.ofNat (dig (m % 16))], by rw [hexB_hi h, e]; rfl, hc⟩
def bodyB (a : Nat) : List UInt8 := if kindN a = 3 then [105, 110, 102] else hexB (absN a)
def backB (l : List UInt8) : Nat := if l = [105, 110, 102] then 9218868437227405312 else valB l
theorem kind3 {a : Nat} : kindN a = 3 ↔ absN a = 9218868437227405312 := by
  unfold kindN; split
  · omega
  · split
    · omega
    · split
      · omega
      · split <;> omega
theorem back_body (a : Nat) : backB (bodyB a) = absN a := by
  unfold backB bodyB
  by_cases h : kindN a = 3
  · rw [if_pos h, if_pos rfl, kind3.1 h]
  · obtain ⟨c, t, e, h1, h2, h3⟩ := head_hex (absN a)
    rw [if_neg h, if_neg (by rw [e]; intro hc; cases hc; exact h2 rfl), val_hex]
theorem body_head (a : Nat) : ∃ c t, bodyB a = c :: t ∧ c ≠ 45 ∧ c ≠ 110 := by
  unfold bodyB
  by_cases h : kindN a = 3
  · rw [if_pos h]; exact ⟨105, _, rfl, by decide, by decide⟩
  · obtain ⟨c, t, e, h1, h2, h3⟩ := head_hex (absN a)
    rw [if_neg h]; exact ⟨c, t, e, h1, h3⟩
theorem text_list {a : Nat} (hn : isNan a = false) : (textN a).data.toList = if a < 9223372036854775808 then bodyB a else 45 :: bodyB a := by
  unfold textN bodyB minusN
  rw [if_neg (by simp [hn])]
  split <;> split <;> simp [bytesOf, hexB]
theorem text_inj {a b : Nat} (ha : a < 18446744073709551616) (hb : b < 18446744073709551616) (na : isNan a = false) (nb : isNan b = false) (h : (textN a).data.toList = (textN b).data.toList) : a = b := by
  rw [text_list na, text_list nb] at h
  obtain ⟨c, t, e, hc, _⟩ := body_head a
  obtain ⟨d, u, f, hd, _⟩ := body_head b
  have key : bodyB a = bodyB b → absN a = absN b := fun x => by rw [← back_body a, ← back_body b, x]
  unfold absN at key
  split at h <;> split at h
  · have := key h; omega
  · rw [e] at h; cases h; exact absurd rfl hc
  · rw [f] at h; cases h; exact absurd rfl hd
  · have := key (List.cons.inj h).2; omega
theorem text_first {a : Nat} (ha : a < 18446744073709551616) (na : isNan a = false) : ∃ c t, (textN a).data.toList = c :: t ∧ c ≠ 110 ∧ (c = 45 ↔ 9223372036854775808 ≤ a) := by
  obtain ⟨c, t, e, h1, h2⟩ := body_head a
  rw [text_list na]
  split
  · exact ⟨c, t, e, h2, by constructor; intro h; exact absurd h h1; intro h; omega⟩
  · exact ⟨45, bodyB a, rfl, by decide, by constructor; intro _; omega; intro _; rfl⟩
theorem eq_text {a b : Nat} (ha : a < 18446744073709551616) (hb : b < 18446744073709551616) (na : isNan a = false) (nb : isNan b = false) : ((textN a).toList == (textN b).toList) = ((a : Int) == (b : Int)) := by
  rw [ByteArray.toList_eq, ByteArray.toList_eq, Bool.eq_iff_iff, beq_iff_eq, beq_iff_eq]
  constructor
  · intro h; rw [text_inj ha hb na nb h]
  · intro h; rw [show a = b by omega]
theorem size_text {a : Nat} (ha : a < 18446744073709551616) (na : isNan a = false) : 0 < (textN a).size := by
  obtain ⟨c, t, e, _⟩ := text_first ha na
  have h : (textN a).data.toList.length = (textN a).size := Array.length_toList
  rw [e, List.length_cons] at h
  omega
theorem first_text {a : Nat} (ha : a < 18446744073709551616) (na : isNan a = false) (hs : 0 < (textN a).size) : (((textN a)[0].toNat : Int) == 45) = ((a : Int) / 9223372036854775808 == 1) := by
  obtain ⟨c, t, e, _, h45⟩ := text_first ha na
  generalize textN a = x at *
  have hc : x[0] = c := by
    have h1 : x.data.toList[0]? = some c := by rw [e]; rfl
    have h2 : x[0] = x.data[0]'hs := rfl
    rw [Array.getElem?_toList, Array.getElem?_eq_getElem hs] at h1
    rw [h2]; exact Option.some.inj h1
  rw [hc, Bool.eq_iff_iff, beq_iff_eq, beq_iff_eq]
  have h3 : ((c.toNat : Int) = 45) ↔ c = 45 := by
    constructor
    · intro h
      have h4 : c.toNat = (45 : UInt8).toNat := by
        have : (45 : UInt8).toNat = 45 := rfl
        omega
      exact UInt8.toNat_inj.1 h4
    · rintro rfl; rfl
  rw [h3, h45]
  omega
theorem nan_text {a : Nat} (ha : a < 18446744073709551616) (na : isNan a = false) : ((textN a).toList == [110, 97, 110]) = false := by
  obtain ⟨c, t, e, h1, _⟩ := text_first ha na
  rw [ByteArray.toList_eq, e, beq_eq_false_iff_ne]
  intro h
  cases h
  exact h1 rfl

set_option maxHeartbeats 1000000 in
theorem texts_walk (a b : Nat) (ha : a < 18446744073709551616) (hb : b < 18446744073709551616) (w : World) (tabs : Tabs w) : Calls Tryd.prog 10 #[.int .u64 a, .int .u64 b] w fun e w' => e = .returned (.bool true) ∧ Below w.heap.size w w' := by
  have ka := kind4 a
  have kb := kind4 b
  rcases na : isNan a with _ | _ <;> rcases nb : isNan b with _ | _ <;> rw [na] at ka <;> rw [nb] at kb
  · have hE := hid (eq_text ha hb na nb)
    have hS := size_text ha na
    have hF := hid (first_text ha na hS)
    go_enter Tryd.func10, Tryd.ntmps10
    go_wp2_with fail
    refine (known_any _ tabs).mono ?_
    rintro e w1 ⟨rfl, b2⟩
    replace tabs := tabs.below b2
    go_wp2_with fail
    refine (kind_any a ha _ tabs).mono ?_
    rintro e w1 ⟨rfl, b1⟩
    replace tabs := tabs.below b1
    replace b2 := b2.trans (b1.mono b2.size)
    clear b1
    go_wp2_with fail
    refine (kind_any b hb _ tabs).mono ?_
    rintro e w1 ⟨rfl, b1⟩
    replace tabs := tabs.below b1
    replace b2 := b2.trans (b1.mono b2.size)
    clear b1
    go_wp2_with fail
    refine (text_any a ha _ tabs).mono ?_
    rintro e w1 ⟨rfl, b1⟩
    replace tabs := tabs.below b1
    replace b2 := b2.trans (b1.mono b2.size)
    clear b1
    go_wp2_with fail
    refine (text_any b hb _ tabs).mono ?_
    rintro e w1 ⟨rfl, b1⟩
    replace tabs := tabs.below b1
    replace b2 := b2.trans (b1.mono b2.size)
    clear b1
    go_wp2_with fail
    go_ret
    exact ⟨ret_bool (by rw [hF.out]; simp), b2⟩
  · have hE := nan_text ha na
    go_enter Tryd.func10, Tryd.ntmps10
    go_wp2_with fail
    refine (known_any _ tabs).mono ?_
    rintro e w1 ⟨rfl, b2⟩
    replace tabs := tabs.below b2
    go_wp2_with fail
    refine (kind_any a ha _ tabs).mono ?_
    rintro e w1 ⟨rfl, b1⟩
    replace tabs := tabs.below b1
    replace b2 := b2.trans (b1.mono b2.size)
    clear b1
    go_wp2_with fail
    refine (kind_any b hb _ tabs).mono ?_
    rintro e w1 ⟨rfl, b1⟩
    replace tabs := tabs.below b1
    replace b2 := b2.trans (b1.mono b2.size)
    clear b1
    go_wp2_with fail
    refine (text_any a ha _ tabs).mono ?_
    rintro e w1 ⟨rfl, b1⟩
    replace tabs := tabs.below b1
    replace b2 := b2.trans (b1.mono b2.size)
    clear b1
    go_wp2_with fail
    refine (kind_any a ha _ tabs).mono ?_
    rintro e w1 ⟨rfl, b1⟩
    replace tabs := tabs.below b1
    replace b2 := b2.trans (b1.mono b2.size)
    clear b1
    go_wp2_with fail
    go_ret
    exact ⟨rfl, b2⟩
  · have hT : textN a = ⟨#[110, 97, 110]⟩ := textN_nan na
    have hA : ∀ w, Tabs w → Calls Tryd.prog 23 #[.int .u64 a] w fun e w' => e = .returned (.string ⟨#[110, 97, 110]⟩) ∧ Below w.heap.size w w' := fun w ht => hT ▸ text_any a ha w ht
    clear hT
    go_enter Tryd.func10, Tryd.ntmps10
    go_wp2_with fail
    refine (known_any _ tabs).mono ?_
    rintro e w1 ⟨rfl, b2⟩
    replace tabs := tabs.below b2
    go_wp2_with fail
    refine (kind_any a ha _ tabs).mono ?_
    rintro e w1 ⟨rfl, b1⟩
    replace tabs := tabs.below b1
    replace b2 := b2.trans (b1.mono b2.size)
    clear b1
    go_wp2_with fail
    refine (hA _ tabs).mono ?_
    rintro e w1 ⟨rfl, b1⟩
    replace tabs := tabs.below b1
    replace b2 := b2.trans (b1.mono b2.size)
    clear b1
    go_wp2_with fail
    refine (kind_any a ha _ tabs).mono ?_
    rintro e w1 ⟨rfl, b1⟩
    replace tabs := tabs.below b1
    replace b2 := b2.trans (b1.mono b2.size)
    clear b1
    go_wp2_with fail
    go_ret
    exact ⟨rfl, b2⟩
  · have hT : textN a = ⟨#[110, 97, 110]⟩ := textN_nan na
    have hA : ∀ w, Tabs w → Calls Tryd.prog 23 #[.int .u64 a] w fun e w' => e = .returned (.string ⟨#[110, 97, 110]⟩) ∧ Below w.heap.size w w' := fun w ht => hT ▸ text_any a ha w ht
    clear hT
    go_enter Tryd.func10, Tryd.ntmps10
    go_wp2_with fail
    refine (known_any _ tabs).mono ?_
    rintro e w1 ⟨rfl, b2⟩
    replace tabs := tabs.below b2
    go_wp2_with fail
    refine (kind_any a ha _ tabs).mono ?_
    rintro e w1 ⟨rfl, b1⟩
    replace tabs := tabs.below b1
    replace b2 := b2.trans (b1.mono b2.size)
    clear b1
    go_wp2_with fail
    refine (hA _ tabs).mono ?_
    rintro e w1 ⟨rfl, b1⟩
    replace tabs := tabs.below b1
    replace b2 := b2.trans (b1.mono b2.size)
    clear b1
    go_wp2_with fail
    refine (kind_any a ha _ tabs).mono ?_
    rintro e w1 ⟨rfl, b1⟩
    replace tabs := tabs.below b1
    replace b2 := b2.trans (b1.mono b2.size)
    clear b1
    go_wp2_with fail
    go_ret
    exact ⟨rfl, b2⟩
end Go.Proofs.YtmjheiedoihohaaDoor
