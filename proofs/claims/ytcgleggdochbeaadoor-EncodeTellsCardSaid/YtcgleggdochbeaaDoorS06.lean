import Derived.Test.YtcgleggdochbeaaDoorS05
namespace Go.Proofs.YtcgleggdochbeaaDoor
open Go.RowKit
set_option linter.unusedVariables false
set_option linter.unusedSimpArgs false
set_option linter.unusedSectionVars false
def opB (k : Int) (X : On) : List Int := if k = 7 then [X.m] else if k = 8 then [X.m % 256] else if k = 9 then wB X.m else []
def opF (k c n : Int) (X : On) : Prop :=
 if k = 1 then X = onReg 0 else if k = 2 then X = onReg 1 else if k = 3 then X = onImm 1 else if k = 4 then X = onReg (c % 8) else if k = 5 then X = onReg n else
 if k = 7 then X = onImm X.m ∧ 0 ≤ X.m ∧ X.m ≤ 255 else if k = 8 then X = onImm X.m ∧ fitI X.m = true ∧ 0 ≤ X.m ∧ X.m ≤ 4294967295 else if k = 9 then X = onImm X.m ∧ 0 ≤ X.m ∧ X.m ≤ 4294967295 else X = onZ
def codeB (c : Int) : List Int := if c < 256 then [c] else [c / 256, c % 256]
def wayR (r : Rw) (c : Int) (t : List Int) (A B : On) : List Int := codeB c ++ t ++ (opB r.a A ++ opB r.b B)
structure ByRow (k : In) (r : Rw) (c n : Int) (t : List Int) : Prop where
 row : r ∈ rowsOf c
 cb : (0 ≤ c ∧ c ≤ 255 ∧ ¬ (c = 15 ∨ c = 217 ∨ c = 243)) ∨ (256 ≤ c ∧ c ≤ 65535 ∧ (c / 256 = 15 ∨ c / 256 = 217 ∨ c / 256 = 243))
 nb : 0 ≤ n ∧ n < 8
 op : opM c (8 * n) r = k.op
 ne : ¬ k.op = 0 ∧ ¬ k.op = -1
 cc : k.c = if r.g = 65520 then c % 16 else 0
 rep : k.rep = (c / 256 == 243)
 A : if r.a = 6 then RMb k.A ∧ t ∈ modT k.A n else opF r.a c n k.A
 B : if r.b = 6 then RMb k.B ∧ t ∈ modT k.B n else opF r.b c n k.B
 T : ¬ (r.a = 6 ∨ r.b = 6) → t = [] ∧ n = 0
theorem first_mem {zs : List Int} {c : Int} {p : Nat} {k : In} : ∀ L : List Rw, firstM zs c p L = .ok (some k) → ∃ r ∈ L, byM zs c p r = .ok k ∧ isB k = true
 | [], h => by cases h
 | r :: rs, h => by
  rw [firstM] at h
  cases hf : fitB c r
  ·rw [hf] at h
   obtain ⟨r', h1, h2⟩ := first_mem rs h
   exact ⟨r', List.mem_cons_of_mem _ h1, h2⟩
  ·rw [hf] at h
   simp only [if_true] at h
   cases hy : byM zs c p r with
   | error x => rw [hy] at h; cases h
   | ok j =>
    rw [hy] at h
    dsimp only at h
    cases hj : isB j
    ·rw [hj] at h
     obtain ⟨r', h1, h2⟩ := first_mem rs h
     exact ⟨r', List.mem_cons_of_mem _ h1, h2⟩
    ·rw [hj] at h
     obtain rfl := Option.some.inj (Except.ok.inj h)
     exact ⟨r, List.mem_cons_self, hy, hj⟩
theorem rest_inv {zs : List Int} {c m : Int} {p : Nat} {r : Rw} {k : In} (h : restM zs c m p r = .ok k) (hi : isB k = true) :
  (¬ opM c m r = 0 ∧ ¬ opM c m r = -1) ∧ ∃ A q B q', operM zs c m p r.a = some (A, q) ∧ operM zs c m q r.b = some (B, q') ∧ k = ⟨opM c m r, if r.g = 65520 then c % 16 else 0, A, B, c / 256 == 243, q'⟩ := by
 by_cases h0 : opM c m r = 0
 ·rw [rest_zero h0] at h
  obtain rfl := Except.ok.inj h
  rw [isB_inZ] at hi; cases hi
 by_cases h1 : opM c m r = -1
 ·rw [rest_bad h1] at h; cases h
 refine ⟨⟨h0, h1⟩, ?_⟩
 cases hA : operM zs c m p r.a with
 | none => rw [rest_shortA rfl h0 h1 hA] at h; cases h
 | some x =>
  obtain ⟨A, q⟩ := x
  cases hB : operM zs c m q r.b with
  | none => rw [rest_shortB rfl h0 h1 hA hB] at h; cases h
  | some y =>
   obtain ⟨B, q'⟩ := y
   rw [rest_ok rfl h0 h1 hA hB] at h
   exact ⟨A, q, B, q', rfl, hB, (Except.ok.inj h).symm⟩
theorem oper_cut {zs : List Int} (hz : ∀ z ∈ zs, 0 ≤ z ∧ z ≤ 255) {c m k : Int} {p q : Nat} {X : On} (hp : p ≤ zs.length) (h6 : ¬ k = 6) (h : operM zs c m p k = some (X, q)) :
  cut zs p q = opB k X ∧ p ≤ q ∧ q ≤ zs.length ∧ opF k c (m / 8 % 8) X := by
 unfold operM at h
 unfold opB opF
 by_cases h1 : k = 1
 ·subst h1; obtain ⟨rfl, rfl⟩ := Prod.mk.inj (Option.some.inj h); exact ⟨cut_self _ _, by omega, by omega, rfl⟩
 rw [if_neg h1] at h ⊢
 by_cases h2 : k = 2
 ·subst h2; obtain ⟨rfl, rfl⟩ := Prod.mk.inj (Option.some.inj h); exact ⟨cut_self _ _, by omega, by omega, rfl⟩
 rw [if_neg h2] at h ⊢
 by_cases h3 : k = 3
 ·subst h3; obtain ⟨rfl, rfl⟩ := Prod.mk.inj (Option.some.inj h); exact ⟨cut_self _ _, by omega, by omega, rfl⟩
 rw [if_neg h3] at h ⊢
 by_cases h4 : k = 4
 ·subst h4; obtain ⟨rfl, rfl⟩ := Prod.mk.inj (Option.some.inj h); exact ⟨cut_self _ _, by omega, by omega, rfl⟩
 rw [if_neg h4] at h ⊢
 by_cases h5 : k = 5
 ·subst h5; obtain ⟨rfl, rfl⟩ := Prod.mk.inj (Option.some.inj h); exact ⟨cut_self _ _, by omega, by omega, rfl⟩
 rw [if_neg h5] at h ⊢
 rw [if_neg h6] at h
 by_cases h7 : k = 7
 ·subst h7
  rw [if_pos rfl] at h ⊢
  split at h
  ·rename_i hl
   obtain ⟨rfl, rfl⟩ := Prod.mk.inj (Option.some.inj h)
   have hb := getD_bd hz p
   rw [if_pos rfl]
   exact ⟨cut1 hl, by omega, by omega, rfl, hb.1, hb.2⟩
  ·cases h
 rw [if_neg h7] at h ⊢
 by_cases h8 : k = 8
 ·subst h8
  rw [if_pos rfl] at h ⊢
  split at h
  ·rename_i hl
   obtain ⟨rfl, rfl⟩ := Prod.mk.inj (Option.some.inj h)
   have hb := getD_bd hz p
   have hs := sx_byte hb
   have hbd := sx_bd (zs.getD p 0)
   rw [if_neg (by decide), if_pos rfl]
   refine ⟨by rw [cut1 hl]; simp only [onImm]; rw [hs], by omega, by omega, rfl, ?_, hbd.1, hbd.2⟩
   unfold fitI
   simp only [onImm]
   rw [hs]; simp
  ·cases h
 rw [if_neg h8] at h ⊢
 by_cases h9 : k = 9
 ·subst h9
  rw [if_pos rfl] at h ⊢
  split at h
  ·rename_i hl
   obtain ⟨rfl, rfl⟩ := Prod.mk.inj (Option.some.inj h)
   have hb := le4_bd hz p
   rw [if_neg (by decide), if_neg (by decide), if_pos rfl]
   exact ⟨cut4 hz hl, by omega, by omega, rfl, hb.1, hb.2⟩
  ·cases h
 rw [if_neg h9] at h ⊢
 obtain ⟨rfl, rfl⟩ := Prod.mk.inj (Option.some.inj h)
 rw [if_neg h7, if_neg h8, if_neg h9]
 exact ⟨cut_self _ _, by omega, by omega, rfl⟩
theorem open_inv {zs : List Int} (hz : ∀ z ∈ zs, 0 ≤ z ∧ z ≤ 255) {c : Int} {p : Nat} (h : openM zs = some (c, p)) :
  ((0 ≤ c ∧ c ≤ 255 ∧ ¬ (c = 15 ∨ c = 217 ∨ c = 243)) ∨ (256 ≤ c ∧ c ≤ 65535 ∧ (c / 256 = 15 ∨ c / 256 = 217 ∨ c / 256 = 243))) ∧ cut zs 0 p = codeB c ∧ p ≤ zs.length ∧ p ≤ 2 := by
 have b0 := getD_bd hz 0
 have b1 := getD_bd hz 1
 unfold openM at h
 split at h
 ·rename_i h1
  split at h
  ·rename_i h2
   split at h
   ·rename_i h3
    obtain ⟨rfl, rfl⟩ := Prod.mk.inj (Option.some.inj h)
    refine ⟨.inr (by omega), ?_, h3, by omega⟩
    rw [cut_cons (by omega) (by omega), cut_cons (by omega) (by omega), cut_self]
    unfold codeB
    rw [if_neg (by omega), show (zs.getD 0 0 * 256 + zs.getD 1 0) / 256 = zs.getD 0 0 by omega, show (zs.getD 0 0 * 256 + zs.getD 1 0) % 256 = zs.getD 1 0 by omega]
   ·cases h
  ·rename_i h2
   obtain ⟨rfl, rfl⟩ := Prod.mk.inj (Option.some.inj h)
   refine ⟨.inl ⟨b0.1, b0.2, h2⟩, ?_, h1, by omega⟩
   rw [cut1 (by omega)]
   unfold codeB
   rw [if_pos (by omega)]
 ·cases h
theorem opM_n (c : Int) {m n : Int} (h : m / 8 % 8 = n) (r : Rw) (hn : 0 ≤ n ∧ n < 8) : opM c (8 * n) r = opM c m r := by
 unfold opM
 by_cases hg : r.g = 65479
 ·rw [if_pos hg, if_pos hg]
 ·rw [if_neg hg, if_neg hg, h, show 8 * n / 8 % 8 = n by omega]
theorem place_RMb {zs : List Int} (hz : ∀ z ∈ zs, 0 ≤ z ∧ z ≤ 255) {p q : Nat} {m : Int} {o : On} (hm : 0 ≤ m ∧ m ≤ 255) (hp : p ≤ zs.length) (h : placeM zs p m = some (o, q)) : RMb o := by
 refine ⟨(placeM_RM h).1, ?_⟩
 unfold placeM at h
 split at h
 ·obtain ⟨rfl, rfl⟩ := Prod.mk.inj (Option.some.inj h)
  exact ⟨by simp [onReg], by simp [onReg]⟩
 have hmd : m / 64 % 4 = 0 ∨ m / 64 % 4 = 1 ∨ m / 64 % 4 = 2 := by omega
 split at h
 ·split at h
  ·rename_i hl
   split at h
   ·obtain ⟨v, b, rfl, -, -, -, -, e5, e6, -⟩ := dist_cut hz hmd (by omega) hl h
    exact ⟨e5, e6⟩
   ·obtain ⟨v, b, rfl, -, -, -, -, e5, e6, -⟩ := dist_cut hz hmd (by omega) hl h
    exact ⟨e5, e6⟩
  ·cases h
 ·obtain ⟨v, b, rfl, -, -, -, -, e5, e6, -⟩ := dist_cut hz hmd (by omega) hp h
  exact ⟨e5, e6⟩
theorem rows_ab : ∀ r ∈ singleL ++ doubleL, (r.a = 6 → ¬ r.b = 6) ∧ (r.b = 6 → r.a = 5) := by
 have : (singleL ++ doubleL).all (fun r => (!(r.a == 6) || !(r.b == 6)) && (!(r.b == 6) || r.a == 5)) = true := by kernel_rfl
 intro r hr
 have := List.all_eq_true.1 this r hr
 simp at this
 exact ⟨fun h => by rcases this.1 with g | g; exact absurd h g; exact g, fun h => by rcases this.2 with g | g; exact absurd h g; exact g⟩
theorem rowIn {c : Int} {r : Rw} (h : r ∈ rowsOf c) : r ∈ singleL ++ doubleL ∧ fitB c r = true := List.mem_filter.1 h
theorem opB_of6 (X : On) : opB 6 X = [] := rfl
theorem opB_of5 (X : On) : opB 5 X = [] := rfl
theorem dom_row {zs : List Int} (hz : ∀ z ∈ zs, 0 ≤ z ∧ z ≤ 255) {k : In} (h : decM zs = .ok k) :
  ∃ r c n t, ByRow k r c n t ∧ ((wayR r c t k.A k.B).length : Int) = k.len ∧ lexLe (wayR r c t k.A k.B) (zs.take k.len.toNat) = true := by
 obtain ⟨c, p, ho, hf⟩ := dec_first h
 obtain ⟨r, hr, hy, hi⟩ := first_mem _ hf
 obtain ⟨hcb, hcut0, hpl, hp2⟩ := open_inv hz ho
 have hab := rows_ab r (rowIn hr).1
 have htake : ∀ q : Nat, zs.take q = cut zs 0 q := fun q => rfl
 have hlc : ∀ q : Nat, q ≤ zs.length → (cut zs 0 q).length = q := fun q hq => by rw [← htake]; simp [List.length_take]; omega
 unfold byM at hy
 by_cases h6 : r.a = 6 ∨ r.b = 6
 ·rw [if_pos h6] at hy
  split at hy
  ·rename_i hp1
   have hb := getD_bd hz p
   have hn : 0 ≤ zs.getD p 0 / 8 % 8 ∧ zs.getD p 0 / 8 % 8 < 8 := by omega
   obtain ⟨hne, A, q, B, q', hA, hB, rfl⟩ := rest_inv hy hi
   by_cases ha : r.a = 6
   ·have hb6 := hab.1 ha
    rw [ha, oper6] at hA
    have hq := placeM_le (by omega) hA
    obtain ⟨t, ht, hnear⟩ := dom_place hz hp1 hA
    obtain ⟨g1, g2, g3, g4⟩ := oper_cut hz hq.2 hb6 hB
    have e : zs.take q' = codeB c ++ cut zs p q ++ opB r.b B := by rw [htake, ← g1, ← hcut0, cut_app (by omega) (by omega), cut_app (by omega) (by omega)]
    have ew : wayR r c t A B = codeB c ++ t ++ opB r.b B := by unfold wayR; rw [ha, opB_of6, List.nil_append]
    refine ⟨r, c, zs.getD p 0 / 8 % 8, t, ⟨hr, hcb, hn, opM_n c rfl r hn, hne, rfl, rfl, ?_, ?_, fun h => absurd h6 h⟩, ?_, ?_⟩
    ·rw [if_pos ha]; exact ⟨place_RMb hz hb (by omega) hA, ht⟩
    ·rw [if_neg hb6]; exact g4
    ·show ((wayR r c t A B).length : Int) = (q' : Int)
     have hl := hlc q' g3
     rw [← htake, e] at hl
     rw [ew]
     have := near_len hnear
     simp only [List.length_append] at hl ⊢
     omega
    ·show lexLe (wayR r c t A B) (zs.take (Int.toNat (q' : Int))) = true
     rw [Int.toNat_natCast, ew, e]
     exact near_lex hnear _ _
   ·have hb6 : r.b = 6 := h6.resolve_left ha
    have ha5 := hab.2 hb6
    rw [ha5, oper5] at hA
    obtain ⟨rfl, rfl⟩ := Prod.mk.inj (Option.some.inj hA)
    rw [hb6, oper6] at hB
    have hq := placeM_le (by omega) hB
    obtain ⟨t, ht, hnear⟩ := dom_place hz hp1 hB
    have e : zs.take q' = codeB c ++ cut zs p q' ++ [] := by rw [htake, List.append_nil, ← hcut0, cut_app (by omega) (by omega)]
    have ew : wayR r c t (onReg (zs.getD p 0 / 8 % 8)) B = codeB c ++ t ++ [] := by unfold wayR; rw [ha5, hb6]; rfl
    refine ⟨r, c, zs.getD p 0 / 8 % 8, t, ⟨hr, hcb, hn, opM_n c rfl r hn, hne, rfl, rfl, ?_, ?_, fun h => absurd h6 h⟩, ?_, ?_⟩
    ·rw [if_neg ha, ha5]; exact rfl
    ·rw [if_pos hb6]; exact ⟨place_RMb hz hb (by omega) hB, ht⟩
    ·show ((wayR r c t (onReg (zs.getD p 0 / 8 % 8)) B).length : Int) = (q' : Int)
     have hl := hlc q' hq.2
     rw [← htake, e] at hl
     rw [ew]
     have := near_len hnear
     simp only [List.length_append] at hl ⊢
     omega
    ·show lexLe (wayR r c t (onReg (zs.getD p 0 / 8 % 8)) B) (zs.take (Int.toNat (q' : Int))) = true
     rw [Int.toNat_natCast, ew, e]
     exact near_lex hnear _ _
  ·cases hy
 ·rw [if_neg h6] at hy
  obtain ⟨hne, A, q, B, q', hA, hB, rfl⟩ := rest_inv hy hi
  have ha : ¬ r.a = 6 := fun h => h6 (.inl h)
  have hb : ¬ r.b = 6 := fun h => h6 (.inr h)
  obtain ⟨f1, f2, f3, f4⟩ := oper_cut hz hpl ha hA
  obtain ⟨g1, g2, g3, g4⟩ := oper_cut hz f3 hb hB
  have e : zs.take q' = wayR r c [] A B := by
   unfold wayR
   rw [htake, ← g1, ← f1, ← hcut0, List.append_nil, cut_app f2 g2, cut_app (by omega) (by omega)]
  rw [show (0 : Int) / 8 % 8 = 0 from rfl] at f4 g4
  refine ⟨r, c, 0, [], ⟨hr, hcb, by decide, (by show opM c (8 * 0) r = opM c 0 r; rw [show (8 : Int) * 0 = 0 from rfl]), hne, rfl, rfl, ?_, ?_, fun _ => ⟨rfl, rfl⟩⟩, ?_, ?_⟩
  ·rw [if_neg ha]; exact f4
  ·rw [if_neg hb]; exact g4
  ·show ((wayR r c [] A B).length : Int) = (q' : Int)
   rw [← e, htake, hlc q' g3]
  ·show lexLe (wayR r c [] A B) (zs.take (Int.toNat (q' : Int))) = true
   rw [Int.toNat_natCast, ← e]
   exact lexLe_refl _
theorem oper_way {k c m n : Int} {X : On} (hm : m / 8 % 8 = n) (h6 : ¬ k = 6) (h : opF k c n X) (pre suf : List Int) : operM (pre ++ opB k X ++ suf) c m pre.length k = some (X, pre.length + (opB k X).length) := by
 have hl := len_mid pre (opB k X) suf
 unfold opF at h
 unfold operM
 by_cases h1 : k = 1
 ·subst h1; rw [if_pos rfl] at h ⊢; rw [h, show ∀ Y, opB 1 Y = [] from fun _ => rfl]; simp
 rw [if_neg h1] at h ⊢
 by_cases h2 : k = 2
 ·subst h2; rw [if_pos rfl] at h ⊢; rw [h, show ∀ Y, opB 2 Y = [] from fun _ => rfl]; simp
 rw [if_neg h2] at h ⊢
 by_cases h3 : k = 3
 ·subst h3; rw [if_pos rfl] at h ⊢; rw [h, show ∀ Y, opB 3 Y = [] from fun _ => rfl]; simp
 rw [if_neg h3] at h ⊢
 by_cases h4 : k = 4
 ·subst h4; rw [if_pos rfl] at h ⊢; rw [h, show ∀ Y, opB 4 Y = [] from fun _ => rfl]; simp
 rw [if_neg h4] at h ⊢
 by_cases h5 : k = 5
 ·subst h5; rw [if_pos rfl] at h ⊢; rw [h, hm, show ∀ Y, opB 5 Y = [] from fun _ => rfl]; simp
 rw [if_neg h5] at h ⊢
 rw [if_neg h6]
 by_cases h7 : k = 7
 ·subst h7
  rw [if_pos rfl] at h ⊢
  have e : opB 7 X = [X.m] := rfl
  rw [e] at hl ⊢
  have g := getD_mid pre [X.m] suf (j := 0) (by simp)
  rw [if_pos (by rw [hl]; simp), ← Nat.add_zero pre.length, g]
  show some (onImm X.m, _) = _
  rw [← h.1]; rfl
 rw [if_neg h7] at h ⊢
 by_cases h8 : k = 8
 ·subst h8
  rw [if_pos rfl] at h ⊢
  have e : opB 8 X = [X.m % 256] := rfl
  rw [e] at hl ⊢
  have g := getD_mid pre [X.m % 256] suf (j := 0) (by simp)
  rw [if_pos (by rw [hl]; simp), ← Nat.add_zero pre.length, g]
  show some (onImm (sx (X.m % 256)), _) = _
  rw [fit_sx h.2.1, ← h.1]; rfl
 rw [if_neg h8] at h ⊢
 by_cases h9 : k = 9
 ·subst h9
  rw [if_pos rfl] at h ⊢
  have e : opB 9 X = wB X.m := rfl
  rw [e] at hl ⊢
  have g := le4_wB pre suf X.m h.2
  rw [if_pos (by rw [hl]; simp [wB]), g, ← h.1]; rfl
 rw [if_neg h9] at h ⊢
 have e : opB k X = [] := by unfold opB; rw [if_neg h7, if_neg h8, if_neg h9]
 rw [e, h]; simp
theorem open_way {c : Int} (hc : (0 ≤ c ∧ c ≤ 255 ∧ ¬ (c = 15 ∨ c = 217 ∨ c = 243)) ∨ (256 ≤ c ∧ c ≤ 65535 ∧ (c / 256 = 15 ∨ c / 256 = 217 ∨ c / 256 = 243))) (suf : List Int) : openM (codeB c ++ suf) = some (c, (codeB c).length) := by
 unfold codeB
 rcases hc with ⟨h1, h2, h3⟩ | ⟨h1, h2, h3⟩
 ·rw [if_pos (by omega)]; exact open_one h3
 ·rw [if_neg (by omega)]
  have := open_two (z := c / 256) (y := c % 256) (t := suf) h3
  rw [show c / 256 * 256 + c % 256 = c by omega] at this
  exact this
theorem by_way {k : In} {r : Rw} {c n : Int} {t : List Int} (H : ByRow k r c n t) (suf : List Int) :
  openM (wayR r c t k.A k.B ++ suf) = some (c, (codeB c).length) ∧ byM (wayR r c t k.A k.B ++ suf) c (codeB c).length r = .ok ⟨k.op, k.c, k.A, k.B, k.rep, (wayR r c t k.A k.B).length⟩ := by
 refine ⟨by unfold wayR; rw [List.append_assoc, List.append_assoc]; exact open_way H.cb _, ?_⟩
 have hab := rows_ab r (rowIn H.row).1
 have hA := H.A
 have hB := H.B
 unfold byM
 by_cases h6 : r.a = 6 ∨ r.b = 6
 ·rw [if_pos h6]
  have hfin : ∀ (o : On), RMb o → t ∈ modT o n → Reads o n t := fun o h1 h2 => reads_mod H.nb h1 h2
  by_cases ha : r.a = 6
  ·have hb6 := hab.1 ha
   rw [if_pos ha] at hA
   rw [if_neg hb6] at hB
   have hR := hfin _ hA.1 hA.2
   have ew : wayR r c t k.A k.B = codeB c ++ t ++ opB r.b k.B := by unfold wayR; rw [ha, opB_of6, List.nil_append]
   rw [ew]
   have e1 : codeB c ++ t ++ opB r.b k.B ++ suf = codeB c ++ t ++ (opB r.b k.B ++ suf) := by simp
   have hg : (codeB c ++ t ++ opB r.b k.B ++ suf).getD (codeB c).length 0 = t.getD 0 0 := by rw [e1]; exact getD_mid _ t _ (j := 0) hR.len.1
   have hP := hR.place (codeB c) (opB r.b k.B ++ suf)
   rw [← e1] at hP
   have hO := oper_way (m := t.getD 0 0) hR.field hb6 hB (codeB c ++ t) suf
   have hlen := hR.len.1
   rw [if_pos (by simp; omega), hg, rest_ok (op := k.op) ((opM_n c hR.field r H.nb).symm.trans H.op) H.ne.1 H.ne.2 (by rw [ha, oper6]; exact hP) (by rw [show (codeB c).length + t.length = (codeB c ++ t).length by simp]; exact hO), ← H.cc, ← H.rep]
   simp [Nat.add_assoc]
  ·have hb6 : r.b = 6 := h6.resolve_left ha
   have ha5 := hab.2 hb6
   rw [if_neg ha, ha5] at hA
   rw [if_pos hb6] at hB
   have hA5 : k.A = onReg n := hA
   have hR := hfin _ hB.1 hB.2
   have ew : wayR r c t k.A k.B = codeB c ++ t := by unfold wayR; rw [ha5, hb6, opB_of5, opB_of6]; simp
   rw [ew]
   have hg : (codeB c ++ t ++ suf).getD (codeB c).length 0 = t.getD 0 0 := getD_mid _ t _ (j := 0) hR.len.1
   have hP := hR.place (codeB c) suf
   have hlen := hR.len.1
   rw [if_pos (by simp; omega), hg, rest_ok (op := k.op) (A := k.A) ((opM_n c hR.field r H.nb).symm.trans H.op) H.ne.1 H.ne.2 (by rw [ha5, oper5, hR.field, hA5]) (by rw [hb6, oper6]; exact hP), ← H.cc, ← H.rep]
   simp
 ·rw [if_neg h6]
  have ha : ¬ r.a = 6 := fun h => h6 (.inl h)
  have hb : ¬ r.b = 6 := fun h => h6 (.inr h)
  rw [if_neg ha] at hA
  rw [if_neg hb] at hB
  obtain ⟨rfl, rfl⟩ := H.T h6
  have ew : wayR r c [] k.A k.B = codeB c ++ opB r.a k.A ++ opB r.b k.B := by unfold wayR; simp
  rw [ew]
  have e1 : codeB c ++ opB r.a k.A ++ opB r.b k.B ++ suf = codeB c ++ opB r.a k.A ++ (opB r.b k.B ++ suf) := by simp
  have hOA := oper_way (m := 0) (by decide) ha hA (codeB c) (opB r.b k.B ++ suf)
  rw [← e1] at hOA
  have hOB := oper_way (m := 0) (by decide) hb hB (codeB c ++ opB r.a k.A) suf
  have hop : opM c 0 r = k.op := by have := H.op; rwa [show (8 : Int) * 0 = 0 from rfl] at this
  rw [rest_ok (op := k.op) hop H.ne.1 H.ne.2 hOA (by rw [show (codeB c).length + (opB r.a k.A).length = (codeB c ++ opB r.a k.A).length by simp]; exact hOB), ← H.cc, ← H.rep]
  simp [Nat.add_assoc]
end Go.Proofs.YtcgleggdochbeaaDoor
