/- The document's quotients. -/
import Derived.Test.YtgeeecoclhomiaaDoorA9
namespace Go.Proofs.YtgeeecoclhomiaaDoor
open Go.RowKit
set_option linter.unusedVariables false
set_option linter.unusedSimpArgs false
set_option linter.unusedSectionVars false

abbrev RDivs (op lo hi d q r : Int) (ok : Bool) : Prop := ∀ w, Calls Tryd.prog 17 #[.int .i64 op, .int .u32 lo, .int .u32 hi, .int .u32 d] w fun e w' => e = .returned (.tuple #[.int .u32 q, .int .u32 r, .bool ok]) ∧ Below w.heap.size w w'
theorem rdiv_zero (op lo hi : Int) (h : 0 ≤ lo ∧ lo ≤ 4294967295) (hb : 0 ≤ hi ∧ hi ≤ 4294967295) : RDivs op lo hi 0 0 0 false := by
  intro w
  go_enter Tryd.func17, Tryd.ntmps17
  go_wp2
  go_ret3
  exact ⟨rfl, Below.refl _ _⟩
theorem rdiv_other (op lo hi d : Int) (h : 0 ≤ lo ∧ lo ≤ 4294967295) (hb : 0 ≤ hi ∧ hi ≤ 4294967295) (h1 : (op == 19) = false) (h2 : (op == 20) = false) : RDivs op lo hi d 0 0 false := by
  intro w
  have n1 : (op != 19) = true := by simp [bne, h1]
  have n2 : (op != 20) = true := by simp [bne, h2]
  by_cases h0 : d = 0
  · subst h0
    exact rdiv_zero op lo hi h hb w
  · have h3 : (d == 0) = false := by simpa using h0
    go_enter Tryd.func17, Tryd.ntmps17
    go_wp2
    go_ret3
    exact ⟨rfl, Below.refl _ _⟩
theorem rdiv_u_yes (lo hi d n : Int) (hnn : n = hi * 4294967296 + lo) (h : 0 ≤ lo ∧ lo ≤ 4294967295) (hb : 0 ≤ hi ∧ hi ≤ 4294967295) (hd : 0 < d ∧ d ≤ 4294967295) (hq : (n / d / 4294967296 != 0) = false) :
    RDivs 19 lo hi d (n / d % 4294967296) (n % d % 4294967296) true := by
  intro w
  have ho := or_high h hb
  have hn : 0 ≤ n ∧ n ≤ 18446744073709551615 := by omega
  rw [← hnn] at ho
  clear hnn
  have h3 : (d == 0) = false := by simp; omega
  have h1 : d ≠ 0 := by omega
  go_enter Tryd.func17, Tryd.ntmps17
  go_wp2
  go_region
  go_wp2
  go_ret3
  exact ⟨rfl, (Below.refl _ _).drew⟩
theorem rdiv_u_no (lo hi d n : Int) (hnn : n = hi * 4294967296 + lo) (h : 0 ≤ lo ∧ lo ≤ 4294967295) (hb : 0 ≤ hi ∧ hi ≤ 4294967295) (hd : 0 < d ∧ d ≤ 4294967295) (hq : (n / d / 4294967296 != 0) = true) :
    RDivs 19 lo hi d 0 0 false := by
  intro w
  have ho := or_high h hb
  have hn : 0 ≤ n ∧ n ≤ 18446744073709551615 := by omega
  rw [← hnn] at ho
  clear hnn
  have h3 : (d == 0) = false := by simp; omega
  have h1 : d ≠ 0 := by omega
  go_enter Tryd.func17, Tryd.ntmps17
  go_wp2
  go_ret3
  exact ⟨rfl, Below.refl _ _⟩
theorem rdiv_s_yes (lo hi d n m e : Int) (hnn : n = hi * 4294967296 + lo) (hm : m = wrap64 n) (he : e = wrap32 d) (h : 0 ≤ lo ∧ lo ≤ 4294967295) (hb : 0 ≤ hi ∧ hi ≤ 4294967295) (hd : 0 < d ∧ d ≤ 4294967295)
    (hbad : (e == -1 && m == -9223372036854775808) = false) (hq : (wrap64 (m.tdiv e) != wrap64 (wrap32 (wrap64 (m.tdiv e)))) = false) :
    RDivs 20 lo hi d (wrap64 (m.tdiv e) % 4294967296) (m.tmod e % 4294967296) true := by
  intro w
  have ho := or_high h hb
  have hn : 0 ≤ n ∧ n ≤ 18446744073709551615 := by omega
  have hmb : -9223372036854775808 ≤ m ∧ m ≤ 9223372036854775807 := by rw [hm]; unfold wrap64; omega
  have heb : -2147483648 ≤ e ∧ e ≤ 2147483647 := by rw [he]; exact bd32 _
  have he0 : e ≠ 0 := by rw [he]; unfold wrap32; omega
  rw [← hnn] at ho
  clear hnn
  have h3 : (d == 0) = false := by simp; omega
  have h1 : d ≠ 0 := by omega
  replace hm := hm.symm
  replace he := he.symm
  go_enter Tryd.func17, Tryd.ntmps17
  by_cases c1 : e = -1
  · have c2 : (m == -9223372036854775808) = false := by simpa [c1] using hbad
    have c3 : (e == -1) = true := by simp [c1]
    clear hbad c1
    go_wp2
    go_region
    go_wp2
    go_ret3
    exact ⟨rfl, (Below.refl _ _).drew⟩
  · have c3 : (e == -1) = false := by simp [c1]
    clear hbad c1
    go_wp2
    go_region
    go_wp2
    go_ret3
    exact ⟨rfl, (Below.refl _ _).drew⟩
theorem rdiv_s_no (lo hi d n m e : Int) (hnn : n = hi * 4294967296 + lo) (hm : m = wrap64 n) (he : e = wrap32 d) (h : 0 ≤ lo ∧ lo ≤ 4294967295) (hb : 0 ≤ hi ∧ hi ≤ 4294967295) (hd : 0 < d ∧ d ≤ 4294967295)
    (hq : (e == -1 && m == -9223372036854775808) = true ∨ (e == -1 && m == -9223372036854775808) = false ∧ (wrap64 (m.tdiv e) != wrap64 (wrap32 (wrap64 (m.tdiv e)))) = true) :
    RDivs 20 lo hi d 0 0 false := by
  intro w
  have ho := or_high h hb
  have hn : 0 ≤ n ∧ n ≤ 18446744073709551615 := by omega
  have hmb : -9223372036854775808 ≤ m ∧ m ≤ 9223372036854775807 := by rw [hm]; unfold wrap64; omega
  have heb : -2147483648 ≤ e ∧ e ≤ 2147483647 := by rw [he]; exact bd32 _
  have he0 : e ≠ 0 := by rw [he]; unfold wrap32; omega
  rw [← hnn] at ho
  clear hnn
  have h3 : (d == 0) = false := by simp; omega
  have h1 : d ≠ 0 := by omega
  replace hm := hm.symm
  replace he := he.symm
  go_enter Tryd.func17, Tryd.ntmps17
  by_cases c1 : e = -1
  · have c3 : (e == -1) = true := by simp [c1]
    rcases hq with hq | ⟨hbad, hq⟩
    · have c2 : (m == -9223372036854775808) = true := by simpa [c1] using hq
      clear hq c1
      go_wp2
      go_ret3
      exact ⟨rfl, Below.refl _ _⟩
    · have c2 : (m == -9223372036854775808) = false := by simpa [c1] using hbad
      clear hbad c1
      go_wp2
      go_ret3
      exact ⟨rfl, Below.refl _ _⟩
  · have c3 : (e == -1) = false := by simp [c1]
    rcases hq with hq | ⟨hbad, hq⟩
    · simp [c1] at hq
    · clear hbad c1
      go_wp2
      go_ret3
      exact ⟨rfl, Below.refl _ _⟩
end Go.Proofs.YtgeeecoclhomiaaDoor
