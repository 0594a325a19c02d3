import Derived.Test.YtbnocincfecmpaaDoorC1
import Derived.Lib.OthersKept
namespace Go.Proofs.YtbnocincfecmpaaDoor
open Go.RowKit
set_option linter.unusedVariables false
set_option linter.unusedSimpArgs false
set_option linter.unusedSectionVars false

/-- Bytes as a string. -/
def bs (l : List UInt8) : ByteArray := ⟨l.toArray⟩
theorem bs_size (l : List UInt8) : (bs l).size = l.length := by unfold bs; exact List.size_toArray
theorem bs_append (a b : List UInt8) : bs a ++ bs b = bs (a ++ b) := by
  unfold bs
  apply ByteArray.ext
  rw [ByteArray.data_append]
  simp
theorem bs_inj {a b : List UInt8} : bs a = bs b ↔ a = b := by
  unfold bs
  constructor
  · intro h
    have := congrArg (fun x : ByteArray => x.data.toList) h
    simpa using this
  · rintro rfl; rfl
theorem itoa_len (n : Int) (h0 : -9223372036854775808 ≤ n) (h1 : n ≤ 9223372036854775807) : (Lib.itoa n).length ≤ 21 := Lib.itoa_length_le n h0 h1
theorem register_any (i : Int) (h0 : -9223372036854775808 ≤ i) (h1 : i ≤ 9223372036854775807) (w : World) (tabs : Tabs w) :
    Calls Tryd.prog 46 #[.int .i64 i] w fun e w' => e = .returned (.string (bs (120 :: Lib.itoa i))) ∧ Below w.heap.size w w' := by
  have l1 := itoa_len i h0 h1
  have l2 := bs_size (Lib.itoa i)
  have hap : (⟨#[120]⟩ : ByteArray) ++ bs (Lib.itoa i) = bs (120 :: Lib.itoa i) := bs_append [120] _
  go_enter Tryd.func46, Tryd.ntmps46
  go_wp2_with fail
  refine (itoa_any i h0 h1 _ tabs).mono ?_
  rintro e w1 ⟨rfl, b1⟩
  change Below w.heap.size w w1 at b1
  go_wp2_with fail
  go_ret
  exact ⟨congrArg (fun x => Ending.returned (.string x)) hap, b1⟩
theorem itoa_bs (n : Int) (h0 : -9223372036854775808 ≤ n) (h1 : n ≤ 9223372036854775807) (w : World) (tabs : Tabs w) :
    Calls Tryd.prog 47 #[.int .i64 n] w fun e w' => e = .returned (.string (bs (Lib.itoa n))) ∧ Below w.heap.size w w' := itoa_any n h0 h1 w tabs

/-! ### What is told of a word -/

/-- What stands for a sign among the operands. -/
def pieceT (d s t i : Int) (c : UInt8) : List UInt8 :=
  if c = 100 then 120 :: Lib.itoa d else if c = 115 then 120 :: Lib.itoa s else if c = 116 then 120 :: Lib.itoa t else if c = 105 then Lib.itoa i else [c]
def textF (f : Nat) (nm : List UInt8) (d s t i : Int) : List UInt8 := if operL f = [] then nm else nm ++ [32] ++ (operL f).flatMap (pieceT d s t i)
/-- The text of a word. -/
def textL (op d s t i : Int) : List UInt8 := if isL op d s t i then textF (formN op.toNat) (nameL op.toNat) d s t i else []
theorem oper_chars {f : Nat} (hf : f < 10) : ∀ c ∈ operL f, c = 100 ∨ c = 115 ∨ c = 116 ∨ c = 105 ∨ c = 44 ∨ c = 40 ∨ c = 41 := by
  have h : ∀ k : Fin 10, ∀ c ∈ operL k, c = 100 ∨ c = 115 ∨ c = 116 ∨ c = 105 ∨ c = 44 ∨ c = 40 ∨ c = 41 := by decide +kernel
  exact h ⟨f, hf⟩
theorem oper_len {f : Nat} (hf : f < 10) : (operL f).length ≤ 6 := by
  have h : ∀ k : Fin 10, (operL k).length ≤ 6 := by decide +kernel
  exact h ⟨f, hf⟩
theorem name_len {k : Nat} (hk : k < 48) : (nameL k).length ≤ 6 := by
  have h : ∀ j : Fin 48, (nameL j).length ≤ 6 := by decide +kernel
  exact h ⟨k, hk⟩
theorem oper_nil {f : Nat} (h1 : 1 ≤ f) (h9 : f ≤ 9) : operL f = [] ↔ f = 9 := by
  have h : ∀ k : Fin 10, 1 ≤ k.val → (operL k = [] ↔ k.val = 9) := by decide +kernel
  exact h ⟨f, by omega⟩ h1
end Go.Proofs.YtbnocincfecmpaaDoor
