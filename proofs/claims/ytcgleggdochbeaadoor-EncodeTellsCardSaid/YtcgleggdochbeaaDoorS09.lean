import Derived.Test.YtcgleggdochbeaaDoorS08
import Derived.Test.YtcgleggdochbeaaDoorRows
import Derived.Test.YtcgleggdochbeaaDoorS00
import Derived.Laws.CopyOwn
import Derived.Test.YtcgleggdochbeaaDoorS02
namespace Go.Proofs.YtcgleggdochbeaaDoor
open Go.RowKit
set_option linter.unusedVariables false
set_option linter.unusedSimpArgs false
set_option linter.unusedSectionVars false
def lexLt : List Int → List Int → Bool
 | _, [] => false
 | [], _ :: _ => true
 | x :: xs, y :: ys => decide (x < y) || (x == y && lexLt xs ys)
def ltW (u v : List Int) : Bool := decide (u.length < v.length) || (u.length == v.length && lexLt u v)
def betterW (best : Option (List Int)) (w : List Int) : Option (List Int) := match best with | none => some w | some b => if ltW w b then some w else some b
def bestW (l : List (List Int)) : Option (List Int) := l.foldl betterW none
theorem lex_total : ∀ u v : List Int, u.length = v.length → lexLt u v = !lexLe v u
 | [], [], _ => rfl
 | [], _ :: _, h => by simp at h
 | _ :: _, [], h => by simp at h
 | x :: xs, y :: ys, h => by
  have ih := lex_total xs ys (by simpa using h)
  unfold lexLt lexLe
  rw [ih]
  by_cases h1 : x < y
  ·rw [decide_eq_true h1, decide_eq_false (show ¬ y < x by omega), show (y == x) = false by simp; omega]; simp
  ·by_cases h2 : y < x
   ·rw [decide_eq_false h1, decide_eq_true h2, show (x == y) = false by simp; omega]; simp
   ·have : x = y := by omega
    subst this
    simp
theorem lexLe_trans : ∀ u v w : List Int, lexLe u v = true → lexLe v w = true → lexLe u w = true
 | [], _, _, _, _ => by unfold lexLe; rfl
 | _ :: _, [], _, h, _ => by unfold lexLe at h; cases h
 | _ :: _, _ :: _, [], _, h => by unfold lexLe at h; cases h
 | x :: xs, y :: ys, z :: zs, h1, h2 => by
  have ih := lexLe_trans xs ys zs
  unfold lexLe at h1 h2 ⊢
  simp only [Bool.or_eq_true, decide_eq_true_eq, Bool.and_eq_true, beq_iff_eq] at h1 h2 ⊢
  rcases h1 with h1 | ⟨rfl, h1⟩
  ·rcases h2 with h2 | ⟨rfl, h2⟩
   ·exact .inl (by omega)
   ·exact .inl h1
  ·rcases h2 with h2 | ⟨rfl, h2⟩
   ·exact .inl h2
   ·exact .inr ⟨rfl, ih h1 h2⟩
theorem lexLe_anti : ∀ u v : List Int, lexLe u v = true → lexLe v u = true → u = v
 | [], [], _, _ => rfl
 | [], _ :: _, _, h => by unfold lexLe at h; cases h
 | _ :: _, [], h, _ => by unfold lexLe at h; cases h
 | x :: xs, y :: ys, h1, h2 => by
  have ih := lexLe_anti xs ys
  unfold lexLe at h1 h2
  simp only [Bool.or_eq_true, decide_eq_true_eq, Bool.and_eq_true, beq_iff_eq] at h1 h2
  rcases h1 with h1 | ⟨rfl, h1⟩
  ·rcases h2 with h2 | ⟨rfl, h2⟩ <;> omega
  ·rcases h2 with h2 | ⟨-, h2⟩
   ·omega
   ·rw [ih h1 h2]
def leW (u v : List Int) : Prop := u.length < v.length ∨ (u.length = v.length ∧ lexLe u v = true)
theorem ltW_not {u v : List Int} (h : ltW v u = false) : leW u v := by
 unfold ltW at h
 simp only [Bool.or_eq_false_iff, decide_eq_false_iff_not] at h
 by_cases e : u.length = v.length
 ·refine .inr ⟨e, ?_⟩
  have h2 := h.2
  rw [show (v.length == u.length) = true by simp [e], Bool.true_and, lex_total v u e.symm] at h2
  simpa using h2
 ·exact .inl (by omega)
theorem leW_refl (u : List Int) : leW u u := .inr ⟨rfl, lexLe_refl u⟩
theorem leW_trans {u v w : List Int} (h1 : leW u v) (h2 : leW v w) : leW u w := by
 rcases h1 with h1 | ⟨e1, h1⟩
 ·rcases h2 with h2 | ⟨e2, h2⟩
  ·exact .inl (by omega)
  ·exact .inl (by omega)
 ·rcases h2 with h2 | ⟨e2, h2⟩
  ·exact .inl (by omega)
  ·exact .inr ⟨e1.trans e2, lexLe_trans _ _ _ h1 h2⟩
theorem leW_anti {u v : List Int} (h1 : leW u v) (h2 : leW v u) : u = v := by
 rcases h1 with h1 | ⟨e1, h1⟩
 ·rcases h2 with h2 | ⟨e2, h2⟩ <;> omega
 ·rcases h2 with h2 | ⟨e2, h2⟩
  ·omega
  ·exact lexLe_anti _ _ h1 h2
theorem ltW_leW {u v : List Int} (h : ltW u v = true) : leW u v := by
 unfold ltW at h
 simp only [Bool.or_eq_true, decide_eq_true_eq, Bool.and_eq_true, beq_iff_eq] at h
 rcases h with h | ⟨e, h⟩
 ·exact .inl h
 ·refine .inr ⟨e, ?_⟩
  rw [lex_total u v e] at h
  have hx : lexLe v u = false := by simpa using h
  have := lex_total v u e.symm
  cases hy : lexLe u v
  ·rw [hy] at this
   have h3 : lexLt v u = true := this
   exfalso
   have t : ∀ a b : List Int, a.length = b.length → lexLe a b = false → lexLe b a = true := by
    intro a
    induction a with
    | nil => intro b _ h; unfold lexLe at h; cases h
    | cons p ps ih =>
     intro b hb h
     cases b with
     | nil => simp at hb
     | cons q qs =>
      unfold lexLe at h ⊢
      simp only [Bool.or_eq_false_iff, decide_eq_false_iff_not, Bool.and_eq_false_iff] at h
      by_cases e : p = q
      ·subst e
       have h2 : lexLe ps qs = false := by rcases h.2 with g | g; simp at g; exact g
       rw [ih qs (by simpa using hb) h2]; simp
      ·rw [decide_eq_true (show q < p by omega)]; rfl
   rw [t u v e hy] at hx; cases hx
  ·rfl
theorem fold_best : ∀ (l : List (List Int)) (b : List Int), ∃ m, l.foldl betterW (some b) = some m ∧ (m = b ∨ m ∈ l) ∧ leW m b ∧ ∀ w ∈ l, leW m w
 | [], b => ⟨b, rfl, .inl rfl, leW_refl b, by simp⟩
 | w :: ws, b => by
  show ∃ m, ws.foldl betterW (if ltW w b = true then some w else some b) = some m ∧ _
  cases h : ltW w b
  ·rw [if_neg Bool.false_ne_true]
   obtain ⟨m, h1, h2, h3, h4⟩ := fold_best ws b
   refine ⟨m, h1, h2.imp id (List.mem_cons_of_mem _), h3, fun v hv => ?_⟩
   rcases List.mem_cons.1 hv with rfl | hv
   ·exact leW_trans h3 (ltW_not h)
   ·exact h4 v hv
  ·rw [if_pos rfl]
   obtain ⟨m, h1, h2, h3, h4⟩ := fold_best ws w
   refine ⟨m, h1, .inr (h2.elim (fun e => by rw [e]; exact List.mem_cons_self) (List.mem_cons_of_mem _)), leW_trans h3 (ltW_leW h), fun v hv => ?_⟩
   rcases List.mem_cons.1 hv with rfl | hv
   ·exact h3
   ·exact h4 v hv
theorem best_of {l : List (List Int)} (h : ∃ w, w ∈ l) : ∃ m, bestW l = some m ∧ m ∈ l ∧ ∀ w ∈ l, leW m w := by
 cases l with
 | nil => obtain ⟨w, hw⟩ := h; cases hw
 | cons x xs =>
  obtain ⟨m, h1, h2, h3, h4⟩ := fold_best xs x
  refine ⟨m, h1, h2.elim (fun e => by rw [e]; exact List.mem_cons_self) (List.mem_cons_of_mem _), fun w hw => ?_⟩
  rcases List.mem_cons.1 hw with rfl | hw
  ·exact h3
  ·exact h4 w hw
theorem mod_ex {o : On} (h : RMb o) (n : Int) : ∃ t, t ∈ modT o n := by
 rcases h.1 with ⟨r, h1, h2, rfl⟩ | ⟨m, b, x, s, rfl, h8⟩
 ·exact ⟨_, by unfold modT; rw [if_pos (show (onReg r).k = 1 from rfl)]; exact List.mem_singleton.2 rfl⟩
 ·by_cases hb : b < 0
  ·exact ⟨_, way_mem (md := 0) (sib := true) (by simp [onMem]) (.inl rfl) (way_some (by omega) (by omega) (by simp))⟩
  ·exact ⟨_, way_mem (md := 2) (sib := true) (by simp [onMem]) (.inr (.inr rfl)) (way_some (by omega) (by omega) (by simp))⟩
def fC (x a : Int) : Bool := if x = 2 ∨ x = 4 ∨ x = 5 then a == 2 || a == 6 else if x = 6 then a == 2 || a == 6 || a == 8 else if x = 7 ∨ x = 9 then a == 16 || a == 48 || a == 112 else if x = 0 then a == 1 else false
def chX (op : Int) (rep : Bool) (a b : Int) : Bool := !takesB (rowN op) a b || !(rR (rowN op) || !rep) || (fmsF op).any fun f => fC f.a a && fC f.b b && (rep == (f.c / 256 == 243))
theorem chX_all : ∀ n : Nat, n < 54 → (l8.all fun a => l8.all fun b => chX (n : Int) false a b && chX (n : Int) true a b) = true := of_decide_eq_true (by kernel_rfl)
theorem fK_cA {x : Int} {o : On} (hm : 0 ≤ o.m ∧ o.m ≤ 4294967295) (h : fC x (cA o) = true) : fK x o = true := by
 unfold fC at h
 by_cases x2 : x = 2 ∨ x = 4 ∨ x = 5
 ·rw [if_pos x2] at h
  have : o.k = 1 := by
   rcases formsW hm with ⟨r, r1, r2, rfl⟩ | ⟨m, m1, m2, rfl⟩ | ⟨hR, hk⟩ | rfl | hz
   ·rfl
   ·rcases cA_imm3 m with e | e | e <;> (rw [e] at h; cases h)
   ·rw [List.mem_singleton.1 (mem_mem hR.1 hk)] at h; cases h
   ·rw [List.mem_singleton.1 mem_z] at h; cases h
   ·rw [hz] at h; cases h
  unfold fK
  rcases x2 with rfl | rfl | rfl <;> simp [this]
 rw [if_neg x2] at h
 by_cases x6 : x = 6
 ·rw [if_pos x6] at h
  subst x6
  rcases formsW hm with ⟨r, r1, r2, rfl⟩ | ⟨m, m1, m2, rfl⟩ | ⟨hR, hk⟩ | rfl | hz
  ·rfl
  ·rcases cA_imm3 m with e | e | e <;> (rw [e] at h; cases h)
  ·unfold fK; simp [hk]
  ·rw [List.mem_singleton.1 mem_z] at h; cases h
  ·rw [hz] at h; cases h
 rw [if_neg x6] at h
 by_cases x7 : x = 7 ∨ x = 9
 ·rw [if_pos x7] at h
  have : o.k = 2 := by
   rcases formsW hm with ⟨r, r1, r2, rfl⟩ | ⟨m, m1, m2, rfl⟩ | ⟨hR, hk⟩ | rfl | hz
   ·have := mem_reg (r := r) ⟨r1, r2⟩
    simp only [List.mem_cons, List.not_mem_nil, or_false] at this
    rcases this with e | e <;> (rw [e] at h; cases h)
   ·rfl
   ·rw [List.mem_singleton.1 (mem_mem hR.1 hk)] at h; cases h
   ·rw [List.mem_singleton.1 mem_z] at h; cases h
   ·rw [hz] at h; cases h
  unfold fK
  rcases x7 with rfl | rfl <;> simp [this]
 rw [if_neg x7] at h
 by_cases x0 : x = 0
 ·rw [if_pos x0] at h
  subst x0
  rcases formsW hm with ⟨r, r1, r2, rfl⟩ | ⟨m, m1, m2, rfl⟩ | ⟨hR, hk⟩ | rfl | hz
  ·have := mem_reg (r := r) ⟨r1, r2⟩
   simp only [List.mem_cons, List.not_mem_nil, or_false] at this
   rcases this with e | e <;> (rw [e] at h; cases h)
  ·rcases cA_imm3 m with e | e | e <;> (rw [e] at h; cases h)
  ·rw [List.mem_singleton.1 (mem_mem hR.1 hk)] at h; cases h
  ·rfl
  ·rw [hz] at h; cases h
 ·rw [if_neg x0] at h; cases h
theorem ways_ex {k : In} (hi : isB k = true) (hA : 0 ≤ k.A.m ∧ k.A.m ≤ 4294967295) (hB : 0 ≤ k.B.m ∧ k.B.m ≤ 4294967295) : ∃ w, w ∈ waysL k := by
 have hop : 1 ≤ k.op ∧ k.op ≤ 53 := by obtain ⟨op, c, A, B, rep, l⟩ := k; exact taken_in hi
 obtain ⟨a0, b0, htk⟩ := taken_ne hi
 obtain ⟨hrep, hcc⟩ : (rR (rowN k.op) || !k.rep) = true ∧ knowsB (rowN k.op) k.c = true := by obtain ⟨op, c, A, B, rep, l⟩ := k; exact isB_parts hi
 have hX : chX k.op k.rep (cA k.A) (cA k.B) = true := by
  obtain ⟨n, hn⟩ := Int.eq_ofNat_of_zero_le (show 0 ≤ k.op by omega)
  have := List.all_eq_true.1 (List.all_eq_true.1 (chX_all n (by omega)) _ (cA_mem k.A)) _ (cA_mem k.B)
  rw [Bool.and_eq_true, show (n : Int) = k.op from hn.symm] at this
  cases k.rep
  ·exact this.1
  ·exact this.2
 unfold chX at hX
 rw [htk, hrep] at hX
 simp only [Bool.not_true, Bool.false_or] at hX
 obtain ⟨f, hf, hX⟩ := List.any_eq_true.1 hX
 simp only [Bool.and_eq_true, beq_iff_eq] at hX
 obtain ⟨⟨xa, xb⟩, xr⟩ := hX
 have fa := fK_cA hA xa
 have fb := fK_cA hB xb
 have ht : ∃ t, t ∈ (if f.a = 6 then modT k.A (nmF f k) else if f.b = 6 then modT k.B (nmF f k) else [[]]) := by
  by_cases a6 : f.a = 6
  ·rw [if_pos a6]; exact mod_ex (RMb_of hA a0 (a6 ▸ fa)) _
  ·rw [if_neg a6]
   by_cases b6 : f.b = 6
   ·rw [if_pos b6]; exact mod_ex (RMb_of hB b0 (b6 ▸ fb)) _
   ·rw [if_neg b6]; exact ⟨[], by simp⟩
 obtain ⟨t, ht⟩ := ht
 refine ⟨wayF (f.c + addF f k) t f.a f.b k.A k.B, List.mem_flatMap.2 ⟨f, hf, ?_⟩⟩
 unfold expF
 rw [if_pos (by rw [fa, fb, xr]; simp)]
 exact List.mem_map.2 ⟨t, ht, rfl⟩
def encM (k : In) : List Int := (bestW (waysL k)).getD []
theorem enc_best {k : In} (hi : isB k = true) (hA : 0 ≤ k.A.m ∧ k.A.m ≤ 4294967295) (hB : 0 ≤ k.B.m ∧ k.B.m ≤ 4294967295) : bestW (waysL k) = some (encM k) ∧ encM k ∈ waysL k ∧ ∀ w ∈ waysL k, leW (encM k) w := by
 obtain ⟨m, h1, h2, h3⟩ := best_of (ways_ex hi hA hB)
 have : encM k = m := by unfold encM; rw [h1]; rfl
 rw [this]
 exact ⟨h1, h2, h3⟩
theorem enc_read {k : In} (hi : isB k = true) (hA : 0 ≤ k.A.m ∧ k.A.m ≤ 4294967295) (hB : 0 ≤ k.B.m ∧ k.B.m ≤ 4294967295) (suf : List Int) :
  decM (encM k ++ suf) = .ok ⟨k.op, k.c, k.A, k.B, k.rep, (encM k).length⟩ ∧ 1 ≤ (encM k).length ∧ (encM k).length ≤ 12 := ways_read hi hA hB (enc_best hi hA hB).2.1 suf
theorem enc_least {zs : List Int} (hz : ∀ z ∈ zs, 0 ≤ z ∧ z ≤ 255) {k : In} (h : decM zs = .ok k) (hA : 0 ≤ k.A.m ∧ k.A.m ≤ 4294967295) (hB : 0 ≤ k.B.m ∧ k.B.m ≤ 4294967295) : leW (encM k) (zs.take k.len.toNat) := by
 have hd := dec_len h
 obtain ⟨w, hw, h1, h2⟩ := ways_least hz h
 have hb := (enc_best hd.1 hA hB).2.2 w hw
 refine leW_trans hb (.inr ⟨?_, h2⟩)
 rw [List.length_take]
 omega
end Go.Proofs.YtcgleggdochbeaaDoor
namespace Go.Proofs.YtcgleggdochbeaaDoor
open Go.RowKit
set_option maxRecDepth 100000
set_option linter.unusedVariables false
theorem sign8_any (x : Int) (w : World) : Calls Tryd.prog 99 #[.int .u32 x] w fun e w' => e = .returned (.int .u32 (IntKind.i8.wrap x % 4294967296)) ∧ w = w' := by
 go_enter Tryd.func99, Tryd.ntmps99
 go_wp2
 go_ret
 exact ⟨rfl, rfl⟩
theorem lowest_any (n : Nat) (h : n ≤ 32) (w : World) : Calls Tryd.prog 94 #[.int .i64 n] w fun e w' => e = .returned (.int .u32 (2 ^ n - 1)) ∧ w = w' := by
 go_enter Tryd.func94, Tryd.ntmps94
 go_wp2
 go_ret
 exact ⟨ret_int (low_mask h), rfl⟩
theorem moved_any (x n : Int) (h : 0 ≤ x ∧ x ≤ 4294967295) (hn : -9223372036854775808 ≤ n ∧ n ≤ 9223372036854775807) (w : World) : Calls Tryd.prog 93 #[.int .u32 x, .int .i64 n] w fun e w' => e = .returned (.int .u32 (mov x n)) ∧ w = w' := by
 by_cases c1 : 0 ≤ n
 ·obtain ⟨k, rfl⟩ := Int.eq_ofNat_of_zero_le c1
  go_enter Tryd.func93, Tryd.ntmps93
  go_wp2
  go_ret
  exact ⟨ret_int mov_up, rfl⟩
 ·by_cases c2 : n < -32
  ·go_enter Tryd.func93, Tryd.ntmps93
   go_wp2
   go_ret
   exact ⟨ret_int (mov_far c2), rfl⟩
  ·go_enter Tryd.func93, Tryd.ntmps93
   go_wp2
   go_ret
   exact ⟨ret_int (mov_down (by omega) (by omega)), rfl⟩
theorem field_any (x n k : Int) (h : 0 ≤ x ∧ x ≤ 4294967295) (hn : -9223372036854775808 ≤ n ∧ n ≤ 9223372036854775807) (w : World) : Calls Tryd.prog 89 #[.int .u32 x, .int .i64 n, .int .i64 k] w fun e w' => e = .returned (.int .u32 (fieldS x n k)) ∧ w = w' := by
 have hm := mov_bd x n h
 by_cases c1 : k < 0
 ·go_enter Tryd.func89, Tryd.ntmps89
  go_wp2_with (first | (go_at_call 93; refine (moved_any _ _ h hn _).mono ?_; rintro e w' ⟨rfl, rfl⟩) | (go_at_call 94; refine (lowest_any 0 (by omega) _).mono ?_; rintro e w' ⟨rfl, rfl⟩))
  go_ret
  exact ⟨ret_int (field_lo hm c1), rfl⟩
 ·by_cases c2 : 32 < k
  ·go_enter Tryd.func89, Tryd.ntmps89
   go_wp2_with (first | (go_at_call 93; refine (moved_any _ _ h hn _).mono ?_; rintro e w' ⟨rfl, rfl⟩) | (go_at_call 94; refine (lowest_any 32 (by omega) _).mono ?_; rintro e w' ⟨rfl, rfl⟩))
   go_ret
   exact ⟨ret_int (field_hi hm c2), rfl⟩
  ·obtain ⟨K, rfl⟩ := Int.eq_ofNat_of_zero_le (show 0 ≤ k by omega)
   go_enter Tryd.func89, Tryd.ntmps89
   go_wp2_with (first | (go_at_call 93; refine (moved_any _ _ h hn _).mono ?_; rintro e w' ⟨rfl, rfl⟩) | (go_at_call 94; refine (lowest_any _ (by omega) _).mono ?_; rintro e w' ⟨rfl, rfl⟩))
   go_ret
   exact ⟨ret_int (field_mid hm (by omega)), rfl⟩
theorem bytes_any (x : Int) (h : 0 ≤ x ∧ x ≤ 4294967295) (w : World) : Calls Tryd.prog 65 #[.int .u32 x] w fun e w' =>
  e = .returned (.agg #[.int .u8 (x % 256), .int .u8 (x / 256 % 256), .int .u8 (x / 65536 % 256), .int .u8 (x / 16777216)]) ∧
  w.alloc (.cells #[.int .u8 (x % 256), .int .u8 (x / 256 % 256), .int .u8 (x / 65536 % 256), .int .u8 (x / 16777216)] 92) = w' := by
 go_enter Tryd.func65, Tryd.ntmps65
 go_wp2
 exact bodyPost_ret (v := .agg #[.int .u8 (x % 256), .int .u8 (x / 256 % 256), .int .u8 (x / 65536 % 256), .int .u8 (x / 16777216)]) (by simp [results, Tryd.results65, go_sem]) rfl ⟨rfl, rfl⟩
theorem word_any (a : Option Addr) (len cap : Nat) (zs : List Int) (w : World) (h : Row8 w a len zs) : Calls Tryd.prog 87 #[.slice a len cap] w fun e w' => e = .returned (.int .u32 (wordS zs)) ∧ Below w.heap.size w w' := by
 obtain ⟨rfl, hz, h3⟩ := h
 have b0 := getD_bd hz 0
 have b1 := getD_bd hz 1
 have b2 := getD_bd hz 2
 have b3 := getD_bd hz 3
 have hsp := splice4 zs
 have hw : wordS zs = zs.getD 0 0 + zs.getD 1 0 * 256 + zs.getD 2 0 * 65536 + zs.getD 3 0 * 16777216 := rfl
 generalize zs.getD 0 0 = z0 at hsp hw b0
 generalize zs.getD 1 0 = z1 at hsp hw b1
 generalize zs.getD 2 0 = z2 at hsp hw b2
 generalize zs.getD 3 0 = z3 at hsp hw b3
 have Hsp := Lib.hid hsp
 have Hw := Lib.hid hw
 clear hsp hw
 have hcs : ((zs.take 4).map (Value.int .u8)).length = Nat.min zs.length 4 := by simp [Nat.min_comm]
 go_enter Tryd.func87, Tryd.ntmps87
 go_wp2_with (refine wpList_copy_splice rfl _ _ _ _ rfl 5 rfl (by kernel_rfl) _ _ _ _ _ _ rfl rfl w.heap.size 0 [.int .u8 0, .int .u8 0, .int .u8 0, .int .u8 0] 92 ?hg ((zs.take 4).map (Value.int .u8)) hcs ?hpos ?hfit ?h1 w.heap.size w ?hb ?hBg ?h)
 case hg => exact alloc_new _ _
 case hpos =>
  intro hp
  rcases h3 with rfl | ⟨b, off, rfl, hlt, hc⟩
  ·simp at hp
  ·refine ⟨_, rfl, fun j v hv => ?_⟩
   have hj : j < 4 ∧ j < zs.length := by
    have := (List.getElem?_eq_some_iff.1 hv).1
    simp at this; omega
   have := hc j hj.2
   rw [List.getD_eq_getElem?_getD, List.getElem?_eq_getElem hj.2, Option.getD_some] at this
   simp [hj.1, hj.2] at hv
   subst hv
   rw [← this]
   rw [show (⟨b, off, none⟩ : Addr).add j = ⟨b, off + j, none⟩ by simp [Addr.add]]
   exact World.cell?_alloc_lt w _ ⟨b, off + j, none⟩ hlt
 case hfit => simp; omega
 case h1 => exact fun v hv => by obtain ⟨z, _, rfl⟩ := List.mem_map.1 hv; rfl
 case hb => exact (Below.refl _ _).alloc (Nat.le_refl _) _
 case hBg => exact Nat.le_refl _
 intro w2 HG hB2
 have HG' := HG.out
 rw [Hsp.out] at HG'
 obtain ⟨c0, c1, c2, c3⟩ := cells4 HG'
 clear HG HG'
 go_wp2
 go_ret
 exact ⟨ret_int ((or_bytes _ _ _ _ b0 b1 b2 b3).trans Hw.out.symm), hB2⟩
end Go.Proofs.YtcgleggdochbeaaDoor
namespace Go.Proofs.YtcgleggdochbeaaDoor
open Go.RowKit
set_option linter.unusedVariables false
set_option linter.unusedSimpArgs false
theorem run_load_row {P : Program} {ev : Operand → Value} {o : Oper} {w : World} {ty : TypeId} {x : Operand} (ho : o.op = .load ty x) {b : Nat} (hx : ev x = .pointer (some ⟨b, 0, none⟩)) (t : TypeId) (cs : Array Value) (fr : Nat × Nat) (d : TypeDesc)
  (hg : w.heap[b]? = some (.cells cs t fr)) (hu : P.underlying ty = some d) (hd : (match d with | .struct _ | .array _ _ => true | _ => false) = true) (hi : (P.info? ty).map (·.size) = some cs.size) :
  (execOp ev o).run P w = .ok (.value (.agg cs)) w := by
 unfold execOp
 simp only [ho, hx, Instr.loadAt, Instr.sureAddr, Sem.run_bind, Sem.run_pure, Result.andThen_ok, run_loadVar_row w b t ty cs fr d hg hu hd hi]
end Go.Proofs.YtcgleggdochbeaaDoor
