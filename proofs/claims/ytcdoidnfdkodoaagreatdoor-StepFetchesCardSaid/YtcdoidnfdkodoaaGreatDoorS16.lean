import Derived.Test.YtcdoidnfdkodoaaGreatDoorS00
import Derived.Test.YtcdoidnfdkodoaaGreatDoorS14
namespace Go.Proofs.YtcdoidnfdkodoaaGreatDoor
open Go.RowKit
set_option linter.unusedVariables false
/-! ### BitsBack -/
/-! ### Signs -/
/-! ### Fields -/
theorem field_low (x : Int) (k : Nat) (hk : k ≤ 32) : fieldS x 0 k = x % 2 ^ k := by
  unfold fieldS
  rw [show held0 (k : Int) = k by unfold held0; split <;> (try split) <;> omega, show mov x 0 = x by unfold mov; simp]
theorem field_at (x : Int) (k n : Nat) (hn : n ≤ 32) (hk : k ≤ 32) : fieldS x k n = x / 2 ^ k % 2 ^ n := by
  unfold fieldS
  rw [show held0 (n : Int) = n by unfold held0; split <;> (try split) <;> omega]
  unfold mov; rw [if_pos (by omega), Int.toNat_natCast, show min k 32 = k by omega]
/-! ### Parity -/
theorem field_one (x : Int) (k : Nat) (hk : k ≤ 32) : fieldS x k 1 = x / 2 ^ k % 2 := by
  have := field_at x k 1 (by decide) hk
  rwa [Int.pow_succ, Int.pow_zero, Int.one_mul] at this
/-! ### BitsLong -/
/-! ### BitsBytes -/
end Go.Proofs.YtcdoidnfdkodoaaGreatDoor
namespace Go.Proofs.YtcdoidnfdkodoaaGreatDoor
open Go.RowKit
set_option linter.unusedVariables false
set_option linter.unusedSimpArgs false
def le4 (zs : List Int) (p : Nat) : Int := zs.getD p 0 + zs.getD (p + 1) 0 * 256 + zs.getD (p + 2) 0 * 65536 + zs.getD (p + 3) 0 * 16777216
def num (zs : List Int) (p n : Nat) : Int := if n = 1 then zs.getD p 0 else le4 zs p
def sx (z : Int) : Int := IntKind.i8.wrap z % 4294967296
def distM (zs : List Int) (p : Nat) (how base x s : Int) : Option (On × Nat) :=
  if how = 1 then (if p + 1 ≤ zs.length then some (onMem (sx (zs.getD p 0)) base x s, p + 1) else none)
  else if how = 2 then (if p + 4 ≤ zs.length then some (onMem (le4 zs p) base x s, p + 4) else none)
  else if base = 5 then (if p + 4 ≤ zs.length then some (onMem (le4 zs p) (-1) x s, p + 4) else none)
  else some (onMem 0 base x s, p)
def placeM (zs : List Int) (p : Nat) (m : Int) : Option (On × Nat) :=
  if m / 64 % 4 = 3 then some (onReg (m % 8), p)
  else if m % 8 = 4 then
    (if p + 1 ≤ zs.length then
      (if zs.getD p 0 / 8 % 8 = 4 then distM zs (p + 1) (m / 64 % 4) (zs.getD p 0 % 8) (-1) 1
       else distM zs (p + 1) (m / 64 % 4) (zs.getD p 0 % 8) (zs.getD p 0 / 8 % 8) (2 ^ (zs.getD p 0 / 64 % 4).toNat))
     else none)
  else distM zs p (m / 64 % 4) (m % 8) (-1) 1
def operM (zs : List Int) (c m : Int) (p : Nat) (k : Int) : Option (On × Nat) :=
  if k = 1 then some (onReg 0, p) else
  if k = 2 then some (onReg 1, p) else
  if k = 3 then some (onImm 1, p) else
  if k = 4 then some (onReg (c % 8), p) else
  if k = 5 then some (onReg (m / 8 % 8), p) else
  if k = 6 then placeM zs p m else
  if k = 7 then (if p + 1 ≤ zs.length then some (onImm (zs.getD p 0), p + 1) else none) else
  if k = 8 then (if p + 1 ≤ zs.length then some (onImm (sx (zs.getD p 0)), p + 1) else none) else
  if k = 9 then (if p + 4 ≤ zs.length then some (onImm (le4 zs p), p + 4) else none) else
  some (onZ, p)
def opM (c m : Int) (r : Rw) : Int := if r.op < 54 then r.op else grp (r.op - 54).toNat ((if r.g = 65479 then c else m) / 8 % 8).toNat
def inZ : In := ⟨0, 0, onZ, onZ, false, 0⟩
def restM (zs : List Int) (c m : Int) (p : Nat) (r : Rw) : Except Int In :=
  if opM c m r = 0 then .ok inZ else
  if opM c m r = -1 then .error 90 else
  match operM zs c m p r.a with
  | none => .error 10
  | some (A, q) =>
  match operM zs c m q r.b with
  | none => .error 10
  | some (B, q') => .ok ⟨opM c m r, if r.g = 65520 then c % 16 else 0, A, B, c / 256 == 243, q'⟩
def byM (zs : List Int) (c : Int) (p : Nat) (r : Rw) : Except Int In :=
  if r.a = 6 ∨ r.b = 6 then (if p + 1 ≤ zs.length then restM zs c (zs.getD p 0) (p + 1) r else .error 10) else restM zs c 0 p r
def fitB (c : Int) (r : Rw) : Bool := bits .and .u32 c r.g == r.c
def firstM (zs : List Int) (c : Int) (p : Nat) : List Rw → Except Int (Option In)
  | [] => .ok none
  | r :: rs => if fitB c r then (match byM zs c p r with
      | .error x => .error x
      | .ok i => if isB i then .ok (some i) else firstM zs c p rs) else firstM zs c p rs
def openM (zs : List Int) : Option (Int × Nat) :=
  if 1 ≤ zs.length then
    (if zs.getD 0 0 = 15 ∨ zs.getD 0 0 = 217 ∨ zs.getD 0 0 = 243 then
      (if 2 ≤ zs.length then some (zs.getD 0 0 * 256 + zs.getD 1 0, 2) else none)
     else some (zs.getD 0 0, 1))
  else none
def decM (zs : List Int) : Except Int In :=
  match openM zs with
  | none => .error 10
  | some (c, p) => match firstM zs c p (singleLD ++ doubleL) with
    | .error x => .error x
    | .ok none => .error 12
    | .ok (some i) => .ok i
def decI (zs : List Int) : In := match decM zs with | .ok i => i | .error _ => inZ
def decE (zs : List Int) : Int := match decM zs with | .ok _ => 0 | .error x => x
theorem num1 (zs : List Int) (p : Nat) : num zs p 1 = zs.getD p 0 := rfl
theorem num4 (zs : List Int) (p : Nat) : num zs p 4 = le4 zs p := rfl
theorem word_take (zs : List Int) (p n : Nat) (hn : n = 1 ∨ n = 4) (h : p + n ≤ zs.length) : wordS ((zs.drop p).take n) = num zs p n := by
  have g : ∀ i, i < n → ((zs.drop p).take n).getD i 0 = zs.getD (p + i) 0 := fun i hi => by
    simp [List.getD_eq_getElem?_getD, List.getElem?_take, hi, List.getElem?_drop]
  have o : ∀ i, n ≤ i → ((zs.drop p).take n).getD i 0 = 0 := fun i hi => by
    simp [List.getD_eq_getElem?_getD, List.getElem?_take, Nat.not_lt.2 hi]
  rcases hn with rfl | rfl
  · unfold wordS
    rw [g 0 (by decide), o 1 (by decide), o 2 (by decide), o 3 (by decide)]
    simp [num]
  · unfold wordS
    rw [g 0 (by decide), g 1 (by decide), g 2 (by decide), g 3 (by decide)]
    simp [num, le4]
theorem openM_bd {zs : List Int} (hz : ∀ z ∈ zs, 0 ≤ z ∧ z ≤ 255) {c : Int} {p : Nat} (h : openM zs = some (c, p)) : 0 ≤ c ∧ c ≤ 65535 ∧ p ≤ zs.length := by
  have b0 := getD_bd hz 0
  have b1 := getD_bd hz 1
  unfold openM at h
  split at h
  · split at h
    · split at h
      · obtain ⟨rfl, rfl⟩ := Prod.mk.inj (Option.some.inj h); omega
      · cases h
    · obtain ⟨rfl, rfl⟩ := Prod.mk.inj (Option.some.inj h); omega
  · cases h
end Go.Proofs.YtcdoidnfdkodoaaGreatDoor
namespace Go.Proofs.YtcdoidnfdkodoaaGreatDoor
open Go.RowKit
set_option linter.unusedVariables false
set_option linter.unusedSimpArgs false
end Go.Proofs.YtcdoidnfdkodoaaGreatDoor
