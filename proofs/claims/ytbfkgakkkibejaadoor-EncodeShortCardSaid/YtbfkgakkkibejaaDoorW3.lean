/- All ways of the document to write an instruction; each row's way is one of them (no program). -/
import Derived.Test.YtbfkgakkkibejaaDoorW2
namespace Go.Proofs.YtbfkgakkkibejaaDoor
open Go.RowKit
set_option linter.unusedVariables false
set_option linter.unusedSimpArgs false
set_option linter.unusedSectionVars false

def mW (pre : List Int) (o : On) (n : Int) : List (List Int) := (modT o n).map (pre ++ ·)
def b1 (l : List (List Int)) (v : Int) : List (List Int) := l.map (· ++ [v % 256])
def b4 (l : List (List Int)) (v : Int) : List (List Int) := l.map (· ++ wB v)
def bothW (ta fr : Int) (a b : On) : List (List Int) := (if b.k = 1 then mW [ta] a b.r else []) ++ (if a.k = 1 then mW [fr] b a.r else [])
def isR0 (o : On) : Bool := o.k == 1 && o.r == 0 && o.m == 0 && o.b == 0 && o.x == 0 && o.s == 0
def shK (op : Int) : Int := if op = 21 then 0 else if op = 22 then 1 else if op = 23 then 4 else if op = 24 then 5 else 7
def nuK (op : Int) : Int := if op = 47 then 0 else if op = 48 then 1 else if op = 53 then 2 else if op = 49 then 4 else 6
/-- All ways to write an instruction. -/
def waysO (op c : Int) (A B : On) (rep : Bool) : List (List Int) :=
  if op = 1 then (if B.k = 2 then (if A.k = 1 then [[184 + A.r] ++ wB B.m] else []) ++ b4 (mW [199] A 0) B.m else bothW 137 139 A B) else 
  if op = 2 then (if B.k = 2 then (if A.k = 1 then [[176 + A.r, B.m % 256]] else []) ++ b1 (mW [198] A 0) B.m else bothW 136 138 A B) else 
  if op = 3 then (if B.k = 2 then (if isR0 A = true then [[5] ++ wB B.m] else []) ++ (if fitI B.m = true then b1 (mW [131] A 0) B.m else []) ++ b4 (mW [129] A 0) B.m else bothW 1 3 A B) else 
  if op = 4 then (if B.k = 2 then (if isR0 A = true then [[13] ++ wB B.m] else []) ++ (if fitI B.m = true then b1 (mW [131] A 1) B.m else []) ++ b4 (mW [129] A 1) B.m else bothW 9 11 A B) else 
  if op = 5 then (if B.k = 2 then (if isR0 A = true then [[21] ++ wB B.m] else []) ++ (if fitI B.m = true then b1 (mW [131] A 2) B.m else []) ++ b4 (mW [129] A 2) B.m else bothW 17 19 A B) else 
  if op = 6 then (if B.k = 2 then (if isR0 A = true then [[29] ++ wB B.m] else []) ++ (if fitI B.m = true then b1 (mW [131] A 3) B.m else []) ++ b4 (mW [129] A 3) B.m else bothW 25 27 A B) else 
  if op = 7 then (if B.k = 2 then (if isR0 A = true then [[37] ++ wB B.m] else []) ++ (if fitI B.m = true then b1 (mW [131] A 4) B.m else []) ++ b4 (mW [129] A 4) B.m else bothW 33 35 A B) else 
  if op = 8 then (if B.k = 2 then (if isR0 A = true then [[45] ++ wB B.m] else []) ++ (if fitI B.m = true then b1 (mW [131] A 5) B.m else []) ++ b4 (mW [129] A 5) B.m else bothW 41 43 A B) else 
  if op = 9 then (if B.k = 2 then (if isR0 A = true then [[53] ++ wB B.m] else []) ++ (if fitI B.m = true then b1 (mW [131] A 6) B.m else []) ++ b4 (mW [129] A 6) B.m else bothW 49 51 A B) else 
  if op = 10 then (if B.k = 2 then (if isR0 A = true then [[61] ++ wB B.m] else []) ++ (if fitI B.m = true then b1 (mW [131] A 7) B.m else []) ++ b4 (mW [129] A 7) B.m else bothW 57 59 A B) else 
  if op = 11 then (if B.k = 1 then mW [133] A B.r else (if isR0 A = true then [[169] ++ wB B.m] else []) ++ b4 (mW [247] A 0) B.m) else 
  if op = 12 then ((if A.k = 1 then [[64 + A.r]] else []) ++ mW [255] A 0) else 
  if op = 13 then ((if A.k = 1 then [[72 + A.r]] else []) ++ mW [255] A 1) else 
  if op = 14 then (mW [247] A 2) else 
  if op = 15 then (mW [247] A 3) else 
  if op = 16 then (mW [247] A 4) else 
  if op = 17 then (mW [247] A 5) else 
  if op = 18 then (mW [15, 175] B A.r) else 
  if op = 19 then (mW [247] A 6) else 
  if op = 20 then (mW [247] A 7) else 
  if op = 21 then (if B.k = 1 then mW [211] A 0 else (if B.m = 1 then mW [209] A 0 else []) ++ b1 (mW [193] A 0) B.m) else 
  if op = 22 then (if B.k = 1 then mW [211] A 1 else (if B.m = 1 then mW [209] A 1 else []) ++ b1 (mW [193] A 1) B.m) else 
  if op = 23 then (if B.k = 1 then mW [211] A 4 else (if B.m = 1 then mW [209] A 4 else []) ++ b1 (mW [193] A 4) B.m) else 
  if op = 24 then (if B.k = 1 then mW [211] A 5 else (if B.m = 1 then mW [209] A 5 else []) ++ b1 (mW [193] A 5) B.m) else 
  if op = 25 then (if B.k = 1 then mW [211] A 7 else (if B.m = 1 then mW [209] A 7 else []) ++ b1 (mW [193] A 7) B.m) else 
  if op = 26 then (mW [141] B A.r) else 
  if op = 27 then (mW [135] A B.r) else 
  if op = 28 then (if A.k = 2 then (if fitI A.m = true then [[106, A.m % 256]] else []) ++ [[104] ++ wB A.m] else (if A.k = 1 then [[80 + A.r]] else []) ++ mW [255] A 6) else 
  if op = 29 then ([[88 + A.r]]) else 
  if op = 30 then (if A.k = 2 then [[232] ++ wB A.m] else mW [255] A 2) else 
  if op = 31 then ([[195]]) else 
  if op = 32 then (if A.k = 2 then (if fitI A.m = true then [[235, A.m % 256]] else []) ++ [[233] ++ wB A.m] else mW [255] A 4) else 
  if op = 33 then ((if fitI A.m = true then [[112 + c, A.m % 256]] else []) ++ [[15, 128 + c] ++ wB A.m]) else 
  if op = 34 then (mW [15, 144 + c] A 0) else 
  if op = 35 then (mW [15, 64 + c] B A.r) else 
  if op = 36 then (mW [15, 182] B A.r) else 
  if op = 37 then (mW [15, 190] B A.r) else 
  if op = 38 then ([[153]]) else 
  if op = 39 then ([[252]]) else 
  if op = 40 then ([[253]]) else 
  if op = 41 then (if rep then [[243, 165]] else [[165]]) else 
  if op = 42 then (if rep then [[243, 171]] else [[171]]) else 
  if op = 43 then ([[205, 128]]) else 
  if op = 44 then ([[144]]) else 
  if op = 45 then (mW [221] A 0) else 
  if op = 46 then (mW [221] A 3) else 
  if op = 47 then (mW [220] A 0) else 
  if op = 48 then (mW [220] A 1) else 
  if op = 49 then (mW [220] A 4) else 
  if op = 50 then (mW [220] A 6) else 
  if op = 51 then ([[217, 224]]) else 
  if op = 52 then ([[217, 225]]) else 
  if op = 53 then (mW [220] A 2) else []
def waysL (k : In) : List (List Int) := waysO k.op k.c k.A k.B k.rep
section
variable (c : Int) (A B : On) (rep : Bool) (l : Int)
theorem wl_1 : waysL ⟨1, c, A, B, rep, l⟩ = (if B.k = 2 then (if A.k = 1 then [[184 + A.r] ++ wB B.m] else []) ++ b4 (mW [199] A 0) B.m else bothW 137 139 A B) := rfl
theorem wl_2 : waysL ⟨2, c, A, B, rep, l⟩ = (if B.k = 2 then (if A.k = 1 then [[176 + A.r, B.m % 256]] else []) ++ b1 (mW [198] A 0) B.m else bothW 136 138 A B) := rfl
theorem wl_3 : waysL ⟨3, c, A, B, rep, l⟩ = (if B.k = 2 then (if isR0 A = true then [[5] ++ wB B.m] else []) ++ (if fitI B.m = true then b1 (mW [131] A 0) B.m else []) ++ b4 (mW [129] A 0) B.m else bothW 1 3 A B) := rfl
theorem wl_4 : waysL ⟨4, c, A, B, rep, l⟩ = (if B.k = 2 then (if isR0 A = true then [[13] ++ wB B.m] else []) ++ (if fitI B.m = true then b1 (mW [131] A 1) B.m else []) ++ b4 (mW [129] A 1) B.m else bothW 9 11 A B) := rfl
theorem wl_5 : waysL ⟨5, c, A, B, rep, l⟩ = (if B.k = 2 then (if isR0 A = true then [[21] ++ wB B.m] else []) ++ (if fitI B.m = true then b1 (mW [131] A 2) B.m else []) ++ b4 (mW [129] A 2) B.m else bothW 17 19 A B) := rfl
theorem wl_6 : waysL ⟨6, c, A, B, rep, l⟩ = (if B.k = 2 then (if isR0 A = true then [[29] ++ wB B.m] else []) ++ (if fitI B.m = true then b1 (mW [131] A 3) B.m else []) ++ b4 (mW [129] A 3) B.m else bothW 25 27 A B) := rfl
theorem wl_7 : waysL ⟨7, c, A, B, rep, l⟩ = (if B.k = 2 then (if isR0 A = true then [[37] ++ wB B.m] else []) ++ (if fitI B.m = true then b1 (mW [131] A 4) B.m else []) ++ b4 (mW [129] A 4) B.m else bothW 33 35 A B) := rfl
theorem wl_8 : waysL ⟨8, c, A, B, rep, l⟩ = (if B.k = 2 then (if isR0 A = true then [[45] ++ wB B.m] else []) ++ (if fitI B.m = true then b1 (mW [131] A 5) B.m else []) ++ b4 (mW [129] A 5) B.m else bothW 41 43 A B) := rfl
theorem wl_9 : waysL ⟨9, c, A, B, rep, l⟩ = (if B.k = 2 then (if isR0 A = true then [[53] ++ wB B.m] else []) ++ (if fitI B.m = true then b1 (mW [131] A 6) B.m else []) ++ b4 (mW [129] A 6) B.m else bothW 49 51 A B) := rfl
theorem wl_10 : waysL ⟨10, c, A, B, rep, l⟩ = (if B.k = 2 then (if isR0 A = true then [[61] ++ wB B.m] else []) ++ (if fitI B.m = true then b1 (mW [131] A 7) B.m else []) ++ b4 (mW [129] A 7) B.m else bothW 57 59 A B) := rfl
theorem wl_11 : waysL ⟨11, c, A, B, rep, l⟩ = (if B.k = 1 then mW [133] A B.r else (if isR0 A = true then [[169] ++ wB B.m] else []) ++ b4 (mW [247] A 0) B.m) := rfl
theorem wl_12 : waysL ⟨12, c, A, B, rep, l⟩ = ((if A.k = 1 then [[64 + A.r]] else []) ++ mW [255] A 0) := rfl
theorem wl_13 : waysL ⟨13, c, A, B, rep, l⟩ = ((if A.k = 1 then [[72 + A.r]] else []) ++ mW [255] A 1) := rfl
theorem wl_14 : waysL ⟨14, c, A, B, rep, l⟩ = (mW [247] A 2) := rfl
theorem wl_15 : waysL ⟨15, c, A, B, rep, l⟩ = (mW [247] A 3) := rfl
theorem wl_16 : waysL ⟨16, c, A, B, rep, l⟩ = (mW [247] A 4) := rfl
theorem wl_17 : waysL ⟨17, c, A, B, rep, l⟩ = (mW [247] A 5) := rfl
theorem wl_18 : waysL ⟨18, c, A, B, rep, l⟩ = (mW [15, 175] B A.r) := rfl
theorem wl_19 : waysL ⟨19, c, A, B, rep, l⟩ = (mW [247] A 6) := rfl
theorem wl_20 : waysL ⟨20, c, A, B, rep, l⟩ = (mW [247] A 7) := rfl
theorem wl_21 : waysL ⟨21, c, A, B, rep, l⟩ = (if B.k = 1 then mW [211] A 0 else (if B.m = 1 then mW [209] A 0 else []) ++ b1 (mW [193] A 0) B.m) := rfl
theorem wl_22 : waysL ⟨22, c, A, B, rep, l⟩ = (if B.k = 1 then mW [211] A 1 else (if B.m = 1 then mW [209] A 1 else []) ++ b1 (mW [193] A 1) B.m) := rfl
theorem wl_23 : waysL ⟨23, c, A, B, rep, l⟩ = (if B.k = 1 then mW [211] A 4 else (if B.m = 1 then mW [209] A 4 else []) ++ b1 (mW [193] A 4) B.m) := rfl
theorem wl_24 : waysL ⟨24, c, A, B, rep, l⟩ = (if B.k = 1 then mW [211] A 5 else (if B.m = 1 then mW [209] A 5 else []) ++ b1 (mW [193] A 5) B.m) := rfl
theorem wl_25 : waysL ⟨25, c, A, B, rep, l⟩ = (if B.k = 1 then mW [211] A 7 else (if B.m = 1 then mW [209] A 7 else []) ++ b1 (mW [193] A 7) B.m) := rfl
theorem wl_26 : waysL ⟨26, c, A, B, rep, l⟩ = (mW [141] B A.r) := rfl
theorem wl_27 : waysL ⟨27, c, A, B, rep, l⟩ = (mW [135] A B.r) := rfl
theorem wl_28 : waysL ⟨28, c, A, B, rep, l⟩ = (if A.k = 2 then (if fitI A.m = true then [[106, A.m % 256]] else []) ++ [[104] ++ wB A.m] else (if A.k = 1 then [[80 + A.r]] else []) ++ mW [255] A 6) := rfl
theorem wl_29 : waysL ⟨29, c, A, B, rep, l⟩ = ([[88 + A.r]]) := rfl
theorem wl_30 : waysL ⟨30, c, A, B, rep, l⟩ = (if A.k = 2 then [[232] ++ wB A.m] else mW [255] A 2) := rfl
theorem wl_31 : waysL ⟨31, c, A, B, rep, l⟩ = ([[195]]) := rfl
theorem wl_32 : waysL ⟨32, c, A, B, rep, l⟩ = (if A.k = 2 then (if fitI A.m = true then [[235, A.m % 256]] else []) ++ [[233] ++ wB A.m] else mW [255] A 4) := rfl
theorem wl_33 : waysL ⟨33, c, A, B, rep, l⟩ = ((if fitI A.m = true then [[112 + c, A.m % 256]] else []) ++ [[15, 128 + c] ++ wB A.m]) := rfl
theorem wl_34 : waysL ⟨34, c, A, B, rep, l⟩ = (mW [15, 144 + c] A 0) := rfl
theorem wl_35 : waysL ⟨35, c, A, B, rep, l⟩ = (mW [15, 64 + c] B A.r) := rfl
theorem wl_36 : waysL ⟨36, c, A, B, rep, l⟩ = (mW [15, 182] B A.r) := rfl
theorem wl_37 : waysL ⟨37, c, A, B, rep, l⟩ = (mW [15, 190] B A.r) := rfl
theorem wl_38 : waysL ⟨38, c, A, B, rep, l⟩ = ([[153]]) := rfl
theorem wl_39 : waysL ⟨39, c, A, B, rep, l⟩ = ([[252]]) := rfl
theorem wl_40 : waysL ⟨40, c, A, B, rep, l⟩ = ([[253]]) := rfl
theorem wl_41 : waysL ⟨41, c, A, B, rep, l⟩ = (if rep then [[243, 165]] else [[165]]) := rfl
theorem wl_42 : waysL ⟨42, c, A, B, rep, l⟩ = (if rep then [[243, 171]] else [[171]]) := rfl
theorem wl_43 : waysL ⟨43, c, A, B, rep, l⟩ = ([[205, 128]]) := rfl
theorem wl_44 : waysL ⟨44, c, A, B, rep, l⟩ = ([[144]]) := rfl
theorem wl_45 : waysL ⟨45, c, A, B, rep, l⟩ = (mW [221] A 0) := rfl
theorem wl_46 : waysL ⟨46, c, A, B, rep, l⟩ = (mW [221] A 3) := rfl
theorem wl_47 : waysL ⟨47, c, A, B, rep, l⟩ = (mW [220] A 0) := rfl
theorem wl_48 : waysL ⟨48, c, A, B, rep, l⟩ = (mW [220] A 1) := rfl
theorem wl_49 : waysL ⟨49, c, A, B, rep, l⟩ = (mW [220] A 4) := rfl
theorem wl_50 : waysL ⟨50, c, A, B, rep, l⟩ = (mW [220] A 6) := rfl
theorem wl_51 : waysL ⟨51, c, A, B, rep, l⟩ = ([[217, 224]]) := rfl
theorem wl_52 : waysL ⟨52, c, A, B, rep, l⟩ = ([[217, 225]]) := rfl
theorem wl_53 : waysL ⟨53, c, A, B, rep, l⟩ = (mW [220] A 2) := rfl
end
/-- What a code and a row that fits it have in common. -/
def rel (c : Int) (r : Rw) : Bool := if r.g = 65535 then c == r.c else if r.g = 65528 then c - c % 8 == r.c else if r.g = 65520 then c - c % 16 == r.c else c - 8 * (c / 8 % 8) == r.c
theorem rel1 : ∀ n : Nat, n < 256 → (rowsOf (n : Int)).all (rel n) = true := of_decide_eq_true (by kernel_rfl)
theorem rel15 : ∀ n : Nat, n < 256 → (rowsOf (3840 + (n : Int))).all (rel (3840 + (n : Int))) = true := of_decide_eq_true (by kernel_rfl)
theorem rel217 : ∀ n : Nat, n < 256 → (rowsOf (55552 + (n : Int))).all (rel (55552 + (n : Int))) = true := of_decide_eq_true (by kernel_rfl)
theorem rel243 : ∀ n : Nat, n < 256 → (rowsOf (62208 + (n : Int))).all (rel (62208 + (n : Int))) = true := of_decide_eq_true (by kernel_rfl)
theorem rel_of {c : Int} (hc : (0 ≤ c ∧ c ≤ 255 ∧ ¬ (c = 15 ∨ c = 217 ∨ c = 243)) ∨ (256 ≤ c ∧ c ≤ 65535 ∧ (c / 256 = 15 ∨ c / 256 = 217 ∨ c / 256 = 243))) {r : Rw} (hr : r ∈ rowsOf c) : rel c r = true := by
  rcases hc with ⟨h1, h2, -⟩ | ⟨h1, h2, h3 | h3 | h3⟩
  · obtain ⟨n, rfl⟩ := Int.eq_ofNat_of_zero_le h1
    exact List.all_eq_true.1 (rel1 n (by omega)) r hr
  · obtain ⟨n, hn⟩ := Int.eq_ofNat_of_zero_le (show 0 ≤ c - 3840 by omega)
    obtain rfl : c = 3840 + (n : Int) := by omega
    exact List.all_eq_true.1 (rel15 n (by omega)) r hr
  · obtain ⟨n, hn⟩ := Int.eq_ofNat_of_zero_le (show 0 ≤ c - 55552 by omega)
    obtain rfl : c = 55552 + (n : Int) := by omega
    exact List.all_eq_true.1 (rel217 n (by omega)) r hr
  · obtain ⟨n, hn⟩ := Int.eq_ofNat_of_zero_le (show 0 ≤ c - 62208 by omega)
    obtain rfl : c = 62208 + (n : Int) := by omega
    exact List.all_eq_true.1 (rel243 n (by omega)) r hr
theorem in_mW {pre : List Int} {o : On} {n : Int} {t w : List Int} (ht : t ∈ modT o n) (e : pre ++ t = w) : w ∈ mW pre o n := List.mem_map.2 ⟨t, ht, e⟩
theorem in_b1 {l : List (List Int)} {u w : List Int} {v : Int} (hu : u ∈ l) (e : u ++ [v % 256] = w) : w ∈ b1 l v := List.mem_map.2 ⟨u, hu, e⟩
theorem in_b4 {l : List (List Int)} {u w : List Int} {v : Int} (hu : u ∈ l) (e : u ++ wB v = w) : w ∈ b4 l v := List.mem_map.2 ⟨u, hu, e⟩
theorem code1 {c : Int} (h : c < 256) : codeB c = [c] := if_pos h
theorem code2 {c d e : Int} (h : 256 ≤ c) (hd : c / 256 = d) (he : c % 256 = e) : codeB c = [d, e] := by unfold codeB; rw [if_neg (by omega), hd, he]
end Go.Proofs.YtbfkgakkkibejaaDoor
