import Derived.Test.YtcgleggdochbeaaDoorS09
import Derived.Test.YtcgleggdochbeaaDoorS10
import Derived.Test.YtcgleggdochbeaaDoorS26
import Derived.Test.YtcgleggdochbeaaDoorS14
import Derived.Lib.AppendZerosOnto
import Derived.Lib.AppendZeros
import Derived.OwnWalk
import Derived.Deep.RegionHeld
import Derived.Deep.RegionHeld3
import Derived.Deep.CutRange
import Derived.Maps.AppendAt
namespace Go.Proofs.YtcgleggdochbeaaDoor
open Go.RowKit
set_option maxRecDepth 100000
set_option maxHeartbeats 8000000
set_option linter.unusedVariables false
set_option linter.unusedSimpArgs false
set_option linter.unusedSectionVars false
structure En where
  (code num a b : Int)
  deriving DecidableEq
def sumE (n : Int) : List En := [⟨8 * n + 1, 0, 3, 2⟩, ⟨8 * n + 3, 0, 2, 3⟩, ⟨8 * n + 5, 0, 0, 5⟩, ⟨129, n, 3, 5⟩, ⟨131, n, 3, 4⟩]
def turE (n : Int) : List En := [⟨193, n, 3, 4⟩, ⟨209, n, 3, 0⟩, ⟨211, n, 3, 0⟩]
def rkE (op : Int) : List En :=
  if 3 ≤ op ∧ op ≤ 10 then sumE (op - 3) else
  if op = 11 then [⟨133, 0, 3, 2⟩, ⟨169, 0, 0, 5⟩, ⟨247, 0, 3, 5⟩] else
  if op = 12 then [⟨64, 0, 1, 0⟩, ⟨255, 0, 3, 0⟩] else
  if op = 13 then [⟨72, 0, 1, 0⟩, ⟨255, 1, 3, 0⟩] else
  if op = 14 then [⟨247, 2, 3, 0⟩] else if op = 15 then [⟨247, 3, 3, 0⟩] else if op = 16 then [⟨247, 4, 3, 0⟩] else if op = 17 then [⟨247, 5, 3, 0⟩] else
  if op = 18 then [⟨4015, 0, 2, 3⟩] else if op = 19 then [⟨247, 6, 3, 0⟩] else if op = 20 then [⟨247, 7, 3, 0⟩] else
  if op = 21 then turE 0 else if op = 22 then turE 1 else if op = 23 then turE 4 else if op = 24 then turE 5 else if op = 25 then turE 7 else []
def mvE (op : Int) : List En :=
  if op = 1 then [⟨137, 0, 3, 2⟩, ⟨139, 0, 2, 3⟩, ⟨184, 0, 1, 5⟩, ⟨199, 0, 3, 5⟩] else
  if op = 2 then [⟨136, 0, 3, 2⟩, ⟨138, 0, 2, 3⟩, ⟨176, 0, 1, 4⟩, ⟨198, 0, 3, 4⟩] else
  if op = 27 then [⟨135, 0, 3, 2⟩] else if op = 26 then [⟨141, 0, 2, 3⟩] else if op = 36 then [⟨4022, 0, 2, 3⟩] else if op = 37 then [⟨4030, 0, 2, 3⟩] else
  if op = 34 then [⟨3984, 0, 3, 0⟩] else if op = 35 then [⟨3904, 0, 2, 3⟩] else
  if op = 28 then [⟨80, 0, 1, 0⟩, ⟨104, 0, 5, 0⟩, ⟨106, 0, 4, 0⟩, ⟨255, 6, 3, 0⟩] else if op = 29 then [⟨88, 0, 1, 0⟩] else []
def goE (op : Int) : List En :=
  if op = 30 then [⟨232, 0, 5, 0⟩, ⟨255, 2, 3, 0⟩] else if op = 31 then [⟨195, 0, 0, 0⟩] else
  if op = 32 then [⟨233, 0, 5, 0⟩, ⟨235, 0, 4, 0⟩, ⟨255, 4, 3, 0⟩] else if op = 33 then [⟨112, 0, 4, 0⟩, ⟨3968, 0, 5, 0⟩] else if op = 43 then [⟨205, 0, 4, 0⟩] else []
def nuE (op : Int) : List En :=
  if op = 45 then [⟨221, 0, 3, 0⟩] else if op = 46 then [⟨221, 3, 3, 0⟩] else if op = 47 then [⟨220, 0, 3, 0⟩] else if op = 48 then [⟨220, 1, 3, 0⟩] else
  if op = 53 then [⟨220, 2, 3, 0⟩] else if op = 49 then [⟨220, 4, 3, 0⟩] else if op = 50 then [⟨220, 6, 3, 0⟩] else []
def alE (op : Int) : List En :=
  if op = 44 then [⟨144, 0, 0, 0⟩] else if op = 38 then [⟨153, 0, 0, 0⟩] else if op = 41 then [⟨165, 0, 0, 0⟩] else if op = 42 then [⟨171, 0, 0, 0⟩] else
  if op = 39 then [⟨252, 0, 0, 0⟩] else if op = 40 then [⟨253, 0, 0, 0⟩] else if op = 51 then [⟨55776, 0, 0, 0⟩] else if op = 52 then [⟨55777, 0, 0, 0⟩] else []
def rowsE (op : Int) : List En := rkE op ++ mvE op ++ goE op ++ nuE op ++ alE op
def oprE (r : En) (k : In) (tw : Int) : On := if tw = r.a then k.A else if tw = r.b then k.B else onZ
def numE (o : On) (tw : Int) : List Int := if tw = 4 then [o.m % 256] else if tw = 5 then wB o.m else []
def openE (r : En) (k : In) : List Int := (if k.rep = true then [243] else []) ++ (if 255 < r.code then [r.code / 256] else []) ++ [(r.code + k.c + (oprE r k 1).r) % 256]
def sibE (o : On) : Int := 64 * scN o.s + 8 * (if o.x = -1 then 4 else o.x) + (if o.b = -1 then 5 else o.b)
def disE (o : On) (md : Int) : List Int := if md = 1 then [o.m % 256] else if md = 2 then wB o.m else if o.b = -1 then wB o.m else []
def memE (o : On) (n : Int) (md : Int) : List (List Int) := [[64 * md + 8 * n + (if o.b = -1 then 5 else o.b)] ++ disE o md, [64 * md + 8 * n + 4, sibE o] ++ disE o md]
def plE (o : On) (n : Int) : List (List Int) := if o.k = 1 then [[192 + 8 * n + o.r]] else if o.k = 3 then memE o n 0 ++ memE o n 1 ++ memE o n 2 else []
def placesE (r : En) (k : In) : List (List Int) := if ¬ r.a = 3 ∧ ¬ r.b = 3 then [[]] else plE (oprE r k 3) (r.num + (oprE r k 2).r)
def triesE (r : En) (k : In) : List (List Int) := (placesE r k).map (fun p => openE r k ++ p ++ numE k.A r.a ++ numE k.B r.b)
def candsE (k : In) : List (List Int) := (rowsE k.op).flatMap (fun r => triesE r k)
def toE (a : Int) : Int := if a = 4 then 1 else if a = 5 then 2 else if a = 6 then 3 else if a = 7 then 4 else if a = 8 then 4 else if a = 9 then 5 else 0
def chE (c n : Int) (r : Rw) : Bool :=
  let op := opM c (8 * n) r
  op == 0 || op == -1 || (!(r.a == 6 || r.b == 6) && n != 0) ||
  (rowsE op).any (fun e => e.a == toE r.a && e.b == toE r.b && e.code + (if r.g = 65520 then c % 16 else 0) + (if r.a = 4 then c % 8 else 0) == (if 62208 ≤ c then c % 256 else c)
    && (c < 256 || 62208 ≤ c || (255 < e.code && e.code / 256 == c / 256)) && (255 ≥ e.code || (256 ≤ c && c < 62208)) && e.num == (if r.a = 5 ∨ r.b = 5 then 0 else n))
def chA (c : Int) : Bool := (List.range 8).all (fun n => (rowsOf c).all (chE c (n : Int)))
theorem chA1 : ∀ n : Nat, n < 256 → chA (n : Int) = true := of_decide_eq_true (by kernel_rfl)
theorem chA15 : ∀ n : Nat, n < 256 → chA (3840 + (n : Int)) = true := of_decide_eq_true (by kernel_rfl)
theorem chA217 : ∀ n : Nat, n < 256 → chA (55552 + (n : Int)) = true := of_decide_eq_true (by kernel_rfl)
theorem chA243 : ∀ n : Nat, n < 256 → chA (62208 + (n : Int)) = true := of_decide_eq_true (by kernel_rfl)
theorem chE_of {c n : Int} (hc : (0 ≤ c ∧ c ≤ 255 ∧ ¬ (c = 15 ∨ c = 217 ∨ c = 243)) ∨ (256 ≤ c ∧ c ≤ 65535 ∧ (c / 256 = 15 ∨ c / 256 = 217 ∨ c / 256 = 243))) (hn : 0 ≤ n ∧ n < 8) {r : Rw} (hr : r ∈ rowsOf c) : chE c n r = true := by
  have hA : chA c = true := by
    rcases hc with ⟨h1, h2, -⟩ | ⟨h1, h2, h3 | h3 | h3⟩
    · obtain ⟨m, rfl⟩ := Int.eq_ofNat_of_zero_le h1
      exact chA1 m (by omega)
    · obtain ⟨m, hm⟩ := Int.eq_ofNat_of_zero_le (show 0 ≤ c - 3840 by omega)
      obtain rfl : c = 3840 + (m : Int) := by omega
      exact chA15 m (by omega)
    · obtain ⟨m, hm⟩ := Int.eq_ofNat_of_zero_le (show 0 ≤ c - 55552 by omega)
      obtain rfl : c = 55552 + (m : Int) := by omega
      exact chA217 m (by omega)
    · obtain ⟨m, hm⟩ := Int.eq_ofNat_of_zero_le (show 0 ≤ c - 62208 by omega)
      obtain rfl : c = 62208 + (m : Int) := by omega
      exact chA243 m (by omega)
  obtain ⟨m, rfl⟩ := Int.eq_ofNat_of_zero_le hn.1
  exact List.all_eq_true.1 (List.all_eq_true.1 hA m (by simp; omega)) r hr
theorem num_op {k c n : Int} {X : On} (h6 : ¬ k = 6) (h : opF k c n X) : numE X (toE k) = opB k X := by
  unfold opF at h
  unfold numE toE opB
  by_cases h4 : k = 4
  · subst h4; rfl
  by_cases h5 : k = 5
  · subst h5; rfl
  by_cases h7 : k = 7
  · subst h7
    have h := h.2
    show [X.m % 256] = [X.m]
    rw [show X.m % 256 = X.m by omega]
  by_cases h8 : k = 8
  · subst h8; rfl
  by_cases h9 : k = 9
  · subst h9; rfl
  rw [if_neg h4, if_neg h5, if_neg h6, if_neg h7, if_neg h8, if_neg h9, if_neg h7, if_neg h8, if_neg h9]
  rfl
theorem rows_b4 : ∀ r ∈ singleL ++ doubleL, ¬ r.b = 4 := by
  have : (singleL ++ doubleL).all (fun r => !(r.b == 4)) = true := by kernel_rfl
  intro r hr
  have := List.all_eq_true.1 this r hr
  simpa using this
theorem toE3 (a : Int) : toE a = 3 ↔ a = 6 := by unfold toE; (repeat' split) <;> omega
theorem toE2 (a : Int) : toE a = 2 ↔ a = 5 := by unfold toE; (repeat' split) <;> omega
theorem toE1 (a : Int) : toE a = 1 ↔ a = 4 := by unfold toE; (repeat' split) <;> omega
theorem RMb.kind {o : On} (h : RMb o) : o.k = 1 ∨ (o.k = 3 ∧ -1 ≤ o.b ∧ o.b < 8 ∧ -1 ≤ o.x ∧ o.x < 8) := by
  obtain ⟨h | ⟨m, b, x, s, rfl, h⟩, -⟩ := h
  · obtain ⟨r, -, -, rfl⟩ := h; exact .inl rfl
  · have := mem_of8 h
    refine .inr ⟨rfl, ?_⟩
    simp only [onMem]
    omega
theorem wayE_mem {o : On} {n md : Int} {sib : Bool} {t : List Int} (hb : -1 ≤ o.b) (hx : -1 ≤ o.x) (hmd : md = 0 ∨ md = 1 ∨ md = 2) (h : wayT o n md sib = some t) : t ∈ memE o n md := by
  unfold wayT at h
  split at h
  · cases h
  rename_i c1
  split at h
  · cases h
  rename_i c2
  split at h
  · cases h
  obtain rfl := Option.some.inj h
  have e5 : (if o.b < 0 then (5 : Int) else o.b) = if o.b = -1 then 5 else o.b := by
    by_cases hb0 : o.b < 0
    · rw [if_pos hb0, if_pos (by omega)]
    · rw [if_neg hb0, if_neg (by omega)]
  have e4 : (if 0 ≤ o.x then o.x else (4 : Int)) = if o.x = -1 then 4 else o.x := by
    by_cases hx0 : 0 ≤ o.x
    · rw [if_pos hx0, if_neg (by omega)]
    · rw [if_neg hx0, if_pos (by omega)]
  have ed : (if md = 2 ∨ o.b < 0 then wB o.m else if md = 1 then [o.m % 256] else []) = disE o md := by
    unfold disE
    by_cases hb0 : o.b < 0
    · obtain rfl : md = 0 := by omega
      rw [if_pos (.inr hb0), if_neg (by decide), if_neg (by decide), if_pos (by omega)]
    · rcases hmd with rfl | rfl | rfl
      · rw [if_neg (by omega), if_neg (by decide), if_neg (by decide), if_neg (by decide), if_neg (by omega)]
      · rw [if_neg (by omega), if_pos rfl, if_pos rfl]
      · rw [if_pos (.inl rfl), if_neg (by decide), if_pos rfl]
  rw [e5, e4, ed]
  unfold memE sibE
  cases sib
  · simp
  · simp
theorem mod_pl {o : On} {n : Int} {t : List Int} (ho : RMb o) (h : t ∈ modT o n) : t ∈ plE o n := by
  unfold modT at h
  unfold plE
  rcases ho.kind with h1 | ⟨h3, hb, -, hx, -⟩
  · rw [if_pos h1] at h ⊢; exact h
  · rw [if_neg (by omega)] at h ⊢
    rw [if_pos h3]
    simp only [List.mem_filterMap, List.mem_cons, List.not_mem_nil, or_false, id] at h
    obtain ⟨w, h, rfl⟩ := h
    rcases h with h | h | h | h | h | h
    · exact List.mem_append_left _ (List.mem_append_left _ (wayE_mem hb hx (by simp) h.symm))
    · exact List.mem_append_left _ (List.mem_append_right _ (wayE_mem hb hx (by simp) h.symm))
    · exact List.mem_append_right _ (wayE_mem hb hx (by simp) h.symm)
    · exact List.mem_append_left _ (List.mem_append_left _ (wayE_mem hb hx (by simp) h.symm))
    · exact List.mem_append_left _ (List.mem_append_right _ (wayE_mem hb hx (by simp) h.symm))
    · exact List.mem_append_right _ (wayE_mem hb hx (by simp) h.symm)
theorem way_in {k : In} {r : Rw} {c n : Int} {t : List Int} (H : ByRow k r c n t) : wayR r c t k.A k.B ∈ candsE k := by
  have hch := chE_of H.cb H.nb H.row
  have hab := rows_ab r (rowIn H.row).1
  have hb4 := rows_b4 r (rowIn H.row).1
  obtain ⟨hne0, hne1⟩ := H.ne
  have hplace : ¬ ((!(r.a == 6 || r.b == 6) && n != 0) = true) := by
    by_cases h6 : r.a = 6 ∨ r.b = 6
    · rcases h6 with h | h <;> simp [h]
    · simp [(H.T h6).2]
  unfold chE at hch
  rw [H.op] at hch
  dsimp only at hch
  rw [Bool.or_eq_true, Bool.or_eq_true, Bool.or_eq_true] at hch
  replace hch := (hch.resolve_left (fun h => h.elim (fun h => h.elim (fun h => hne0 (by simpa using h)) (fun h => hne1 (by simpa using h))) hplace))
  obtain ⟨e, he, hch⟩ := List.any_eq_true.1 hch
  simp only [Bool.and_eq_true, Bool.or_eq_true, beq_iff_eq, decide_eq_true_eq] at hch
  obtain ⟨⟨⟨⟨⟨ea, eb⟩, ec⟩, eh⟩, el⟩, en⟩ := hch
  refine List.mem_flatMap.2 ⟨e, he, List.mem_map.2 ⟨t, ?_, ?_⟩⟩
  · unfold placesE
    rw [ea, eb]
    by_cases ha : r.a = 6
    · obtain ⟨hR, ht⟩ := by have := H.A; rw [if_pos ha] at this; exact this
      have hb6 := hab.1 ha
      rw [if_neg (fun h => h.1 ((toE3 _).2 ha))]
      have e3 : oprE e k 3 = k.A := by unfold oprE; rw [ea, if_pos ((toE3 _).2 ha).symm]
      have e2 : e.num + (oprE e k 2).r = n := by
        unfold oprE
        rw [ea, eb, if_neg (fun h => absurd ((toE2 _).1 h.symm) (by omega)), en]
        by_cases hb5 : r.b = 5
        · have hB := H.B
          rw [if_neg hb6, hb5] at hB
          have hB : k.B = onReg n := hB
          rw [if_pos (.inr hb5), if_pos ((toE2 _).2 hb5).symm, hB]
          show 0 + n = n
          omega
        · rw [if_neg (by omega), if_neg (fun h => hb5 ((toE2 _).1 h.symm))]
          show n + 0 = n
          omega
      rw [e3, e2]
      exact mod_pl hR ht
    · by_cases hb : r.b = 6
      · obtain ⟨hR, ht⟩ := by have := H.B; rw [if_pos hb] at this; exact this
        have ha5 := hab.2 hb
        rw [if_neg (fun h => h.2 ((toE3 _).2 hb))]
        have e3 : oprE e k 3 = k.B := by unfold oprE; rw [ea, eb, if_neg (fun h => ha ((toE3 _).1 h.symm)), if_pos ((toE3 _).2 hb).symm]
        have e2 : e.num + (oprE e k 2).r = n := by
          have hA := H.A
          rw [if_neg ha, ha5] at hA
          have hA : k.A = onReg n := hA
          unfold oprE
          rw [ea, if_pos ((toE2 _).2 ha5).symm, en, if_pos (.inl ha5), hA]
          show 0 + n = n
          omega
        rw [e3, e2]
        exact mod_pl hR ht
      · rw [if_pos ⟨fun h => ha ((toE3 _).1 h), fun h => hb ((toE3 _).1 h)⟩, (H.T (fun h => h.elim ha hb)).1]
        simp
  · have hn : numE k.A e.a ++ numE k.B e.b = opB r.a k.A ++ opB r.b k.B := by
      rw [ea, eb]
      have hA := H.A
      have hB := H.B
      by_cases ha : r.a = 6
      · have hb6 := hab.1 ha
        rw [if_neg hb6] at hB
        rw [num_op hb6 hB, ha]; rfl
      · rw [if_neg ha] at hA
        rw [num_op ha hA]
        by_cases hb : r.b = 6
        · rw [hb]; rfl
        · rw [if_neg hb] at hB
          rw [num_op hb hB]
    have hr1 : (oprE e k 1).r = if r.a = 4 then c % 8 else 0 := by
      unfold oprE
      rw [ea, eb]
      by_cases ha : r.a = 4
      · have hA := H.A
        rw [if_neg (by omega), ha] at hA
        have hA : k.A = onReg (c % 8) := hA
        rw [if_pos ((toE1 _).2 ha).symm, if_pos ha, hA]; rfl
      · rw [if_neg (fun h => ha ((toE1 _).1 h.symm)), if_neg (fun h => hb4 ((toE1 _).1 h.symm)), if_neg ha]; rfl
    have ho : openE e k = codeB c := by
      unfold openE codeB
      rw [hr1, H.cc, H.rep, ec]
      rcases H.cb with ⟨c1, c2, c3⟩ | ⟨c1, c2, c3 | c3 | c3⟩
      · have hf : (c / 256 == 243) = false := by simp; omega
        rw [hf, if_neg (by decide), if_neg (by omega), if_neg (by omega), if_pos (by omega), show c % 256 = c by omega]; rfl
      · have hf : (c / 256 == 243) = false := by simp; omega
        have h1 : 255 < e.code := by omega
        have h2 : e.code / 256 = c / 256 := by omega
        rw [hf, if_neg (by decide), if_pos h1, if_neg (by omega), if_neg (by omega), h2]; rfl
      · have hf : (c / 256 == 243) = false := by simp; omega
        have h1 : 255 < e.code := by omega
        have h2 : e.code / 256 = c / 256 := by omega
        rw [hf, if_neg (by decide), if_pos h1, if_neg (by omega), if_neg (by omega), h2]; rfl
      · have hf : (c / 256 == 243) = true := by simp; omega
        have h1 : ¬ 255 < e.code := by omega
        rw [hf, if_pos rfl, if_neg h1, if_pos (by omega), if_neg (by omega), c3, show c % 256 % 256 = c % 256 by omega]; rfl
    unfold wayR
    rw [List.append_assoc, hn, ho]
end Go.Proofs.YtcgleggdochbeaaDoor
namespace Go.Proofs.YtcgleggdochbeaaDoor
open Go.RowKit
set_option maxRecDepth 100000
set_option maxHeartbeats 8000000
set_option linter.unusedVariables false
set_option linter.unusedSimpArgs false
def sameO (a b : On) : Bool := a.k == b.k && (a.r == b.r && (a.m == b.m && (a.b == b.b && (a.x == b.x && (a.s == b.s && true)))))
def sameI (a b : In) : Bool := a.op == b.op && (a.c == b.c && (sameO a.A b.A && (sameO a.B b.B && (a.rep == b.rep && (a.len == b.len && true)))))
theorem eqi (d : Nat) (x y : Int) (W : World) : (Op.equalIn (d + 1) 3 (.int .i64 x) (.int .i64 y)).run Tryd.prog W = .ok (x == y) W := by
  go_simp
theorem eqi2 (d : Nat) (x y : Int) (W : World) : (Op.equalIn (d + 1) 22 (.int .u32 x) (.int .u32 y)).run Tryd.prog W = .ok (x == y) W := by
  go_simp
theorem eqi3 (d : Nat) (x y : Bool) (W : World) : (Op.equalIn (d + 1) 4 (.bool x) (.bool y)).run Tryd.prog W = .ok (x == y) W := by
  go_simp
theorem eqf_step {P : Program} {d : Nat} {xs ys : Array Value} {f : Field} {fs : List Field} {a b : Value} {r t : Bool} (hn : f.name ≠ "_") (ha : ∀ W, (part f.type xs f.offset).run P W = .ok a W) (hb : ∀ W, (part f.type ys f.offset).run P W = .ok b W)
   (hr : ∀ W, (Op.equalIn d f.type a b).run P W = .ok r W) (ht : ∀ W, (Op.eqFields d xs ys fs).run P W = .ok t W) (W : World) : (Op.eqFields d xs ys (f :: fs)).run P W = .ok (r && t) W := by
  unfold Op.eqFields
  rw [if_pos hn]
  simp only [Sem.run_bind, ha, hb, hr, Result.andThen_ok]
  cases r
  · simp
  · simp [ht]
theorem eqf_nil {P : Program} {d : Nat} {xs ys : Array Value} (W : World) : (Op.eqFields d xs ys []).run P W = .ok true W := rfl
theorem eqs {P : Program} {d : Nat} {t : TypeId} {xs ys : Array Value} {fs : Array Field} {r : Bool} (h : P.underlying t = some (.struct fs)) (hp : P.stoodInHeld t = false) (hr : ∀ W, (Op.eqFields d xs ys fs.toList).run P W = .ok r W) (W : World) :
    (Op.equalIn (d + 1) t (.agg xs) (.agg ys)).run P W = .ok r W := by
  have hf : P.fieldsOf t = fs := by unfold Program.fieldsOf; rw [h]
  rw [run_equalIn_struct W d t xs ys (by rw [hf]; exact h) hp, hf]
  exact hr W
theorem eqv_on (a b : On) (W : World) : (Op.equalIn 9999 24 (opV a) (opV b)).run Tryd.prog W = .ok (sameO a b) W := by
  refine eqs Tryd.underlying24 (by kernel_rfl) (fun W => ?_) W
  refine eqf_step (by decide) (fun W => by go_simp) (fun W => by go_simp) (fun W => eqi _ _ _ W) (fun W => ?_) W
  refine eqf_step (by decide) (fun W => by go_simp) (fun W => by go_simp) (fun W => eqi _ _ _ W) (fun W => ?_) W
  refine eqf_step (by decide) (fun W => by go_simp) (fun W => by go_simp) (fun W => eqi2 _ _ _ W) (fun W => ?_) W
  refine eqf_step (by decide) (fun W => by go_simp) (fun W => by go_simp) (fun W => eqi _ _ _ W) (fun W => ?_) W
  refine eqf_step (by decide) (fun W => by go_simp) (fun W => by go_simp) (fun W => eqi _ _ _ W) (fun W => ?_) W
  exact eqf_step (by decide) (fun W => by go_simp) (fun W => by go_simp) (fun W => eqi2 _ _ _ W) (fun W => eqf_nil W) W
theorem eqv_in (a b : In) (W : World) : (Op.equalIn 10000 26 (inV a) (inV b)).run Tryd.prog W = .ok (sameI a b) W := by
  refine eqs Tryd.underlying26 (by kernel_rfl) (fun W => ?_) W
  refine eqf_step (by decide) (fun W => by go_simp) (fun W => by go_simp) (fun W => eqi _ _ _ W) (fun W => ?_) W
  refine eqf_step (by decide) (fun W => by go_simp) (fun W => by go_simp) (fun W => eqi _ _ _ W) (fun W => ?_) W
  refine eqf_step (a := opV a.A) (b := opV b.A) (by decide) (fun W => by go_simp) (fun W => by go_simp) (fun W => eqv_on _ _ W) (fun W => ?_) W
  refine eqf_step (a := opV a.B) (b := opV b.B) (by decide) (fun W => by go_simp) (fun W => by go_simp) (fun W => eqv_on _ _ W) (fun W => ?_) W
  refine eqf_step (by decide) (fun W => by go_simp) (fun W => by go_simp) (fun W => eqi3 _ _ _ W) (fun W => ?_) W
  exact eqf_step (by decide) (fun W => by go_simp) (fun W => by go_simp) (fun W => eqi _ _ _ W) (fun W => eqf_nil W) W
end Go.Proofs.YtcgleggdochbeaaDoor
namespace Go.Proofs.YtcgleggdochbeaaDoor
open Go.RowKit
set_option maxRecDepth 100000
set_option maxHeartbeats 8000000
set_option linter.unusedVariables false
set_option linter.unusedSimpArgs false
set_option linter.unusedSectionVars false
theorem sameO_iff (a b : On) : sameO a b = true ↔ a = b := by
  obtain ⟨a1, a2, a3, a4, a5, a6⟩ := a
  obtain ⟨b1, b2, b3, b4, b5, b6⟩ := b
  simp [sameO]
theorem sameI_iff (a b : In) : sameI a b = true ↔ a = b := by
  obtain ⟨a1, a2, a3, a4, a5, a6⟩ := a
  obtain ⟨b1, b2, b3, b4, b5, b6⟩ := b
  simp [sameI, sameO_iff]
def withLen (k : In) (l : Int) : In := ⟨k.op, k.c, k.A, k.B, k.rep, l⟩
def meansE (z : List Int) (k : In) : Bool := decE z == 0 && ((decI z).len == (z.length : Int) && sameI (decI z) (withLen k (decI z).len))
def stepE (k : In) (acc : Option (List Int)) (z : List Int) : Option (List Int) := if meansE z k = true then betterW acc z else acc
theorem restE_err {zs : List Int} {c m : Int} {p : Nat} {r : Rw} {x : Int} (h : restM zs c m p r = .error x) : ¬ x = 0 := by
  unfold restM at h
  (repeat' split at h) <;> first | (cases h; done) | (obtain rfl := Except.error.inj h; simp)
theorem byE_err {zs : List Int} {c : Int} {p : Nat} {r : Rw} {x : Int} (h : byM zs c p r = .error x) : ¬ x = 0 := by
  unfold byM at h
  (repeat' split at h) <;> first | exact restE_err h | (obtain rfl := Except.error.inj h; simp)
theorem firstE_err {zs : List Int} {c : Int} {p : Nat} {x : Int} : ∀ L : List Rw, firstM zs c p L = .error x → ¬ x = 0
  | [], h => by cases h
  | r :: rs, h => by
    rw [firstM] at h
    split at h
    · cases hy : byM zs c p r with
      | error y => rw [hy] at h; obtain rfl := Except.error.inj h; exact byE_err hy
      | ok i =>
        rw [hy] at h
        dsimp only at h
        split at h
        · cases h
        · exact firstE_err rs h
    · exact firstE_err rs h
theorem decE_err {zs : List Int} {x : Int} (h : decM zs = .error x) : ¬ x = 0 := by
  unfold decM at h
  split at h
  · obtain rfl := Except.error.inj h; simp
  · split at h
    · rename_i e
      obtain rfl := Except.error.inj h
      exact firstE_err _ e
    · obtain rfl := Except.error.inj h; simp
    · cases h
theorem means_ok {z : List Int} {k : In} (h : meansE z k = true) : decM z = .ok (withLen k z.length) := by
  unfold meansE at h
  simp only [Bool.and_eq_true, beq_iff_eq, sameI_iff] at h
  obtain ⟨h1, h2, h3⟩ := h
  cases hd : decM z with
  | error x =>
    unfold decE at h1
    rw [hd] at h1
    exact absurd h1 (decE_err hd)
  | ok i =>
    have e : decI z = i := by unfold decI; rw [hd]
    rw [e] at h2 h3
    rw [h2] at h3
    rw [h3]
theorem ok_means {z : List Int} {k : In} (h : decM z = .ok (withLen k z.length)) : meansE z k = true := by
  unfold meansE decE decI
  rw [h]
  simp [sameI_iff, withLen]
theorem foldE_filter (k : In) : ∀ (L : List (List Int)) (acc : Option (List Int)), L.foldl (stepE k) acc = (L.filter (fun z => meansE z k)).foldl betterW acc
  | [], _ => rfl
  | z :: L, acc => by
    rw [List.foldl_cons, foldE_filter k L]
    unfold stepE
    by_cases h : meansE z k = true
    · rw [if_pos h, List.filter_cons_of_pos (by simpa using h), List.foldl_cons]
    · rw [if_neg h, List.filter_cons_of_neg (by simpa using h)]
def okE (r : En) : Bool := decide (0 ≤ r.code) && decide (r.code ≤ 65535) && decide (0 ≤ r.num) && decide (r.num < 8) && (r.num == 0 || (r.a != 2 && r.b != 2)) && decide (0 ≤ r.a) && decide (r.a ≤ 5) && decide (0 ≤ r.b) && decide (r.b ≤ 5) && !(r.a == r.b && r.a != 0)
theorem rowsE_in : ∀ n : Nat, n < 54 → (rowsE (n : Int)).all okE = true := of_decide_eq_true (by kernel_rfl)
theorem rowsE_out {op : Int} (h : ¬ (0 ≤ op ∧ op < 54)) : rowsE op = [] := by
  unfold rowsE rkE mvE goE nuE alE
  rw [if_neg (by omega)]
  repeat rw [if_neg (by omega)]
  rfl
theorem rowsE_ok (op : Int) : ∀ r ∈ rowsE op, okE r = true := by
  by_cases h : 0 ≤ op ∧ op < 54
  · obtain ⟨n, rfl⟩ := Int.eq_ofNat_of_zero_le h.1
    exact List.all_eq_true.1 (rowsE_in n (by omega))
  · rw [rowsE_out h]; simp
structure OkE (r : En) : Prop where
  code : 0 ≤ r.code ∧ r.code ≤ 65535
  num : 0 ≤ r.num ∧ r.num < 8
  mid : r.num = 0 ∨ (¬ r.a = 2 ∧ ¬ r.b = 2)
  a : 0 ≤ r.a ∧ r.a ≤ 5
  b : 0 ≤ r.b ∧ r.b ≤ 5
theorem OkE.of {r : En} (h : okE r = true) : OkE r := by
  unfold okE at h
  simp only [Bool.and_eq_true, Bool.or_eq_true, decide_eq_true_eq, beq_iff_eq, bne_iff_ne, ne_eq] at h
  obtain ⟨⟨⟨⟨⟨⟨⟨⟨⟨h1, h2⟩, h3⟩, h4⟩, h5⟩, h6⟩, h7⟩, h8⟩, h9⟩, -⟩ := h
  exact ⟨⟨h1, h2⟩, ⟨h3, h4⟩, h5, ⟨h6, h7⟩, ⟨h8, h9⟩⟩
structure OkO (o : On) : Prop where
  k : 0 ≤ o.k ∧ o.k ≤ 3
  r : 0 ≤ o.r ∧ o.r < 8
  b : -1 ≤ o.b ∧ o.b < 8
  x : -1 ≤ o.x ∧ o.x < 8
  m : 0 ≤ o.m ∧ o.m ≤ 4294967295
theorem OkO.z : OkO onZ := ⟨by decide, by decide, by decide, by decide, by decide⟩
theorem OkO.of {o : On} (h : ¬ cA o = 0) (hm : 0 ≤ o.m ∧ o.m ≤ 4294967295) : OkO o := by
  obtain ⟨k, r, m, b, x, s⟩ := o
  unfold cA at h
  dsimp only at h hm
  by_cases h0 : k = 0
  · subst h0
    cases hc : (r == 0 && m == 0 && b == 0 && x == 0 && s == 0)
    · rw [hc] at h; exact absurd rfl h
    · simp at hc
      exact ⟨by simp, by simp; omega, by simp; omega, by simp; omega, hm⟩
  rw [show (k == 0) = false by simp [h0]] at h
  by_cases h1 : k = 1
  · subst h1
    cases hc : (m == 0 && b == 0 && x == 0 && s == 0)
    · rw [hc] at h; exact absurd rfl h
    · rw [hc] at h
      simp at hc
      have hr : 0 ≤ r ∧ r < 8 := by
        have h : ¬ regA r = 0 := h
        unfold regA isRegB at h
        by_cases hr : r = 1
        · omega
        · rw [show (r == 1) = false by simp [hr]] at h
          by_cases h2 : 0 ≤ r ∧ r < 8
          · exact h2
          · rw [show (decide (0 ≤ r) && decide (r < 8)) = false by simp; omega] at h
            exact absurd rfl h
      exact ⟨by simp, hr, by simp; omega, by simp; omega, hm⟩
  rw [show (k == 1) = false by simp [h1]] at h
  by_cases h2 : k = 2
  · subst h2
    cases hc : (r == 0 && b == 0 && x == 0 && s == 0)
    · rw [hc] at h; exact absurd rfl h
    · simp at hc
      exact ⟨by simp, by simp; omega, by simp; omega, by simp; omega, hm⟩
  rw [show (k == 2) = false by simp [h2]] at h
  by_cases h3 : k = 3
  · subst h3
    cases hc : (r == 0)
    · rw [hc] at h; exact absurd rfl h
    · rw [hc] at h
      simp at hc
      have h : ¬ memA b x s = 0 := h
      have h8 : memA b x s = 8 := by
        unfold memA at h ⊢
        cases hb : ((b == -1 || isRegB b) && isIndexB x s)
        · rw [hb] at h; exact absurd rfl h
        · rfl
      have := mem_of8 h8
      exact ⟨by simp, by simp; omega, by simp; omega, by simp; omega, hm⟩
  rw [show (k == 3) = false by simp [h3]] at h
  exact absurd rfl h
structure OkI (k : In) : Prop where
  A : OkO k.A
  B : OkO k.B
  c : 0 ≤ k.c ∧ k.c ≤ 15
theorem OkI.of {k : In} (hi : isB k = true) (hA : 0 ≤ k.A.m ∧ k.A.m ≤ 4294967295) (hB : 0 ≤ k.B.m ∧ k.B.m ≤ 4294967295) : OkI k := by
  unfold isB at hi
  simp only [Bool.and_eq_true] at hi
  obtain ⟨⟨-, hk⟩, ht⟩ := hi
  unfold takesB at ht
  simp only [Bool.and_eq_true, bne_iff_ne, ne_eq] at ht
  have z : ∀ x : Int, bits .and .i64 0 x = 0 := fun x => by simp [bits]; decide
  refine ⟨OkO.of (fun h => ?_) hA, OkO.of (fun h => ?_) hB, ?_⟩
  · rw [h, z] at ht; exact ht.1.1 rfl
  · rw [h, z] at ht; exact ht.1.2 rfl
  · unfold knowsB at hk
    simp at hk
    omega
theorem OkI.opr {k : In} (h : OkI k) (r : En) (tw : Int) : OkO (oprE r k tw) := by
  unfold oprE
  (repeat' split)
  · exact h.A
  · exact h.B
  · exact OkO.z
theorem mid_bd {k : In} {r : En} (h : OkI k) (hr : OkE r) : 0 ≤ r.num + (oprE r k 2).r ∧ r.num + (oprE r k 2).r < 8 := by
  have ho := (h.opr r 2).r
  rcases hr.mid with h0 | ⟨h1, h2⟩
  · omega
  · have : oprE r k 2 = onZ := by unfold oprE; rw [if_neg (by omega), if_neg (by omega)]
    rw [this]
    have := hr.num
    simp only [onZ]
    omega
theorem scN_bd (s : Int) : 0 ≤ scN s ∧ scN s ≤ 3 := by unfold scN; (repeat' split) <;> omega
def Byt (t : List Int) : Prop := ∀ z ∈ t, 0 ≤ z ∧ z ≤ 255
theorem Byt.app {xs ys : List Int} (hx : Byt xs) (hy : Byt ys) : Byt (xs ++ ys) := bd_app hx hy
theorem Byt.num {o : On} (h : OkO o) (tw : Int) : Byt (numE o tw) := by
  unfold numE
  (repeat' split)
  · intro z hz; simp at hz; omega
  · exact wB_bd _ h.m
  · intro z hz; simp at hz
theorem Byt.dis {o : On} (h : OkO o) (md : Int) : Byt (disE o md) := by
  unfold disE
  (repeat' split)
  · intro z hz; simp at hz; omega
  · exact wB_bd _ h.m
  · exact wB_bd _ h.m
  · intro z hz; simp at hz
theorem Byt.mem {o : On} (h : OkO o) {n md : Int} (hn : 0 ≤ n ∧ n < 8) (hmd : 0 ≤ md ∧ md ≤ 2) : ∀ t ∈ memE o n md, Byt t := by
  intro t ht
  have hb := h.b
  have hx := h.x
  have hs := scN_bd o.s
  unfold memE at ht
  simp only [List.mem_cons, List.not_mem_nil, or_false] at ht
  rcases ht with rfl | rfl
  · refine Byt.app ?_ (Byt.dis h md)
    intro z hz
    simp only [List.mem_singleton] at hz
    split at hz <;> omega
  · refine Byt.app ?_ (Byt.dis h md)
    intro z hz
    simp only [List.mem_cons, List.not_mem_nil, or_false] at hz
    rcases hz with rfl | rfl
    · omega
    · unfold sibE; (repeat' split) <;> omega
theorem Byt.pl {o : On} (h : OkO o) {n : Int} (hn : 0 ≤ n ∧ n < 8) : ∀ t ∈ plE o n, Byt t := by
  intro t ht
  unfold plE at ht
  split at ht
  · simp only [List.mem_singleton] at ht
    subst ht
    intro z hz
    simp only [List.mem_singleton] at hz
    have := h.r
    omega
  · split at ht
    · rcases List.mem_append.1 ht with ht | ht
      · rcases List.mem_append.1 ht with ht | ht
        · exact Byt.mem h hn (by decide) t ht
        · exact Byt.mem h hn (by decide) t ht
      · exact Byt.mem h hn (by decide) t ht
    · simp at ht
theorem Byt.places {k : In} {r : En} (h : OkI k) (hr : OkE r) : ∀ t ∈ placesE r k, Byt t := by
  intro t ht
  unfold placesE at ht
  split at ht
  · simp only [List.mem_singleton] at ht
    subst ht
    intro z hz; simp at hz
  · exact Byt.pl (h.opr r 3) (mid_bd h hr) t ht
theorem Byt.opening {k : In} {r : En} (h : OkI k) (hr : OkE r) : Byt (openE r k) := by
  have := hr.code
  unfold openE
  refine Byt.app (Byt.app ?_ ?_) ?_
  · split
    · intro z hz; simp at hz; omega
    · intro z hz; simp at hz
  · split
    · intro z hz; simp at hz; omega
    · intro z hz; simp at hz
  · intro z hz; simp at hz; omega
theorem Byt.tries {k : In} {r : En} (h : OkI k) (hr : OkE r) : ∀ t ∈ triesE r k, Byt t := by
  intro t ht
  obtain ⟨p, hp, rfl⟩ := List.mem_map.1 ht
  exact (((Byt.opening h hr).app (Byt.places h hr p hp)).app (Byt.num h.A _)).app (Byt.num h.B _)
theorem Byt.cands {k : In} (h : OkI k) : ∀ t ∈ candsE k, Byt t := by
  intro t ht
  obtain ⟨r, hr, ht⟩ := List.mem_flatMap.1 ht
  exact Byt.tries h (OkE.of (rowsE_ok _ r hr)) t ht
theorem least_enc {k : In} (hi : isB k = true) (hA : 0 ≤ k.A.m ∧ k.A.m ≤ 4294967295) (hB : 0 ≤ k.B.m ∧ k.B.m ≤ 4294967295) : (candsE k).foldl (stepE k) none = some (encM k) := by
  have hok := OkI.of hi hA hB
  rw [foldE_filter]
  obtain ⟨r, c, n, t, H, hw⟩ := bw_any hi hA hB (enc_best hi hA hB).2.1
  have hin : encM k ∈ candsE k := by rw [hw]; exact way_in H
  have hread := (enc_read hi hA hB []).1
  rw [List.append_nil] at hread
  have hmem : encM k ∈ (candsE k).filter (fun z => meansE z k) := List.mem_filter.2 ⟨hin, ok_means hread⟩
  obtain ⟨m, h1, h2, h3⟩ := best_of ⟨_, hmem⟩
  obtain ⟨g1, g2⟩ := List.mem_filter.1 h2
  have hd := means_ok g2
  have hle := enc_least (Byt.cands hok m g1) hd hA hB
  have e : encM (withLen k (m.length : Int)) = encM k := rfl
  rw [e, show (withLen k (m.length : Int)).len.toNat = m.length from Int.toNat_natCast _, List.take_length] at hle
  have hg := h3 _ hmem
  show bestW _ = _
  rw [h1, leW_anti hg hle]
end Go.Proofs.YtcgleggdochbeaaDoor
namespace Go.Proofs.YtcgleggdochbeaaDoor
open Go.RowKit
set_option maxRecDepth 100000
set_option maxHeartbeats 8000000
set_option linter.unusedVariables false
set_option linter.unusedSimpArgs false
set_option linter.unusedSectionVars false
def Bs (W : World) (v : Value) (zs : List Int) : Prop := ∃ a c, v = .slice a zs.length c ∧ Ba W a zs.length c zs
theorem Bs.below {w w' : World} {v : Value} {zs : List Int} (h : Bs w v zs) (b : Below w.heap.size w w') : Bs w' v zs := by
  obtain ⟨a, c, rfl, h⟩ := h
  exact ⟨a, c, rfl, h.below b⟩
theorem Own.bs {w : World} {N : Nat} {v : Value} {zs : List Int} (h : Own w N v zs) : Bs w v zs := h.ba
theorem Bs.nil (W : World) : Bs W (.slice none 0 0) [] := ⟨none, 0, rfl, ⟨⟨rfl, by simp, .inl rfl⟩, Nat.le_refl _, by decide, fun _ => rfl⟩⟩
theorem Own.nil (w : World) (N : Nat) : Own w N (.slice none 0 0) [] := ⟨by simp, World.ownsRow_nil w N 5 1⟩
structure Ls (W : World) (g : Nat) (vs : List Value) (L : List (List Int)) : Prop where
  blk : Blk W g 28 vs.toArray
  len : vs.length = L.length
  at' : ∀ i, i < L.length → Bs W (vs.getD i undef) (L.getD i [])
theorem Ls.below {w w' : World} {g : Nat} {vs : List Value} {L : List (List Int)} (h : Ls w g vs L) (b : Below w.heap.size w w') : Ls w' g vs L :=
  ⟨h.blk.below b h.blk.lt, h.len, fun i hi => (h.at' i hi).below b⟩
theorem Ls.cell {w : World} {g : Nat} {vs : List Value} {L : List (List Int)} (h : Ls w g vs L) {i : Nat} (hi : i < L.length) : w.cell? ⟨g, i, none⟩ = some (vs.getD i undef) := by
  refine h.blk.cell ?_
  have : i < vs.length := by rw [h.len]; exact hi
  simp [List.getD_eq_getElem?_getD, this]
theorem infoBm : (Tryd.prog.info? 5).map (fun i => (i.zero, i.size, i.bytes)) = some (some (.int .u8 0), 1, 1) := by kernel_rfl
theorem infoB : ∃ i, Tryd.prog.info? 5 = some i ∧ i.zero = some (.int .u8 0) ∧ i.size = 1 ∧ i.bytes = 1 := by
  have h := infoBm
  cases hi : Tryd.prog.info? 5 with
  | none => rw [hi] at h; cases h
  | some i =>
    rw [hi] at h
    simp only [Option.map_some, Option.some.injEq, Prod.mk.injEq] at h
    exact ⟨i, rfl, h.1, h.2.1, h.2.2⟩
theorem growB0 (w : World) : Calls Tryd.prog 64 #[.slice none 0 0, .int .i64 0] w fun e w' => e = .returned (.slice none 0 0) ∧ w' = w := by
  go_enter Tryd.func64, Tryd.ntmps64
  go_wp2
  go_ret
  exact ⟨rfl, rfl⟩
theorem growB1 (n : Nat) (h0 : 0 < n) (hn : n ≤ 1000) (w : World) : Calls Tryd.prog 64 #[.slice none 0 0, .int .i64 n] w fun e w' => ∃ v, e = .returned v ∧ w'.ownsRow w.heap.size 5 1 v 0 [] ∧ Below w.heap.size w w' := by
  obtain ⟨i0, hi0, hz0, hs, hb⟩ := infoB
  have h1 : ¬ ((n : Int) < 0) := by omega
  have h2 : wrap64 ((0 : Int) - (0 : Int)) = 0 := by unfold wrap64; omega
  have h3 : wrap64 ((n : Int) - 0) = (n : Int) := by unfold wrap64; omega
  have h4 : (n : Int) > 0 := by omega
  have hold : (Builtin.firstCells i0.size 0 (.slice none 0 0)).run Tryd.prog w.drew = .ok #[] w.drew := run_firstCells_none w.drew i0.size 0 0 0
  have hrz : ∀ ty, (Builtin.append_ #[28, 3] ty #[.slice none 0 0, .int .i64 (n : Int)]).run Tryd.prog w =
      .ok (.slice (some ⟨w.heap.size, 0, none⟩) n (grownCap w n 0 5)) (w.drew.alloc (.cells (#[] ++ Builtin.zeroCells (Value.cells (.int .u8 0)) n ++ Builtin.zeroCells (Value.cells (.int .u8 0)) (grownCap w n 0 5 - n)) 5)) := fun ty => by
    have h := Lib.run_append_grow_zeros w 28 3 ty 5 i0 (.int .u8 0) .i64 .i64 Tryd.underlying28 Tryd.underlying3 hi0 hz0 none 0 0 [] hold n h0 (by omega) (by omega) (by omega) (by rw [hb]; omega) (growslice_fits (by omega) (by rw [hb]; omega))
    rw [Nat.zero_add] at h
    exact h
  have hGn : n ≤ grownCap w n 0 5 := grownCap_ge w _ _ _
  have hG63 : grownCap w n 0 5 ≤ maxLen := grownCap_le_maxLen w n 0 5 (by unfold maxLen; omega)
  have hcell : (#[] ++ Builtin.zeroCells (Value.cells (.int .u8 0)) n ++ Builtin.zeroCells (Value.cells (.int .u8 0)) (grownCap w n 0 5 - n)).size = grownCap w n 0 5 * 1 := by
    simp [Builtin.zeroCells, Value.cells]; omega
  generalize grownCap w n 0 5 = G at *
  generalize #[] ++ Builtin.zeroCells (Value.cells (.int .u8 0)) n ++ Builtin.zeroCells (Value.cells (.int .u8 0)) (G - n) = cells at *
  have hG64 : G ≤ 9223372036854775807 := by unfold maxLen at hG63; omega
  clear hold
  go_enter Tryd.func64, Tryd.ntmps64
  go_wp2_with (at_builtin; refine Lib.wpList_append_run _ rfl _ _ _ _ rfl _ _ rfl rfl _ _ (hrz _) ?_)
  go_ret
  refine ⟨_, rfl, ⟨rfl, .inr ⟨_, _, _, rfl, Nat.le_refl _, alloc_new _ _, Nat.zero_le _, hG63, hcell, by simp⟩⟩, ?_⟩
  have hd : Below w.heap.size w w.drew := ⟨rfl, rfl, rfl, Nat.le_refl _, fun _ _ => rfl⟩
  exact hd.alloc (Nat.le_refl _) _
theorem infoRm : (Tryd.prog.info? 52).map (fun i => (i.zero, i.size, i.bytes)) = some (some (.agg #[.int .i64 0, .int .i64 0, .int .i64 0, .int .i64 0]), 4, 32) := by kernel_rfl
theorem infoR : ∃ i, Tryd.prog.info? 52 = some i ∧ i.zero = some (.agg #[.int .i64 0, .int .i64 0, .int .i64 0, .int .i64 0]) ∧ i.size = 4 ∧ i.bytes = 32 := by
  have h := infoRm
  cases hi : Tryd.prog.info? 52 with
  | none => rw [hi] at h; cases h
  | some i =>
    rw [hi] at h
    simp only [Option.map_some, Option.some.injEq, Prod.mk.injEq] at h
    exact ⟨i, rfl, h.1, h.2.1, h.2.2⟩
theorem growR0 (w : World) : Calls Tryd.prog 58 #[.slice none 0 0, .int .i64 0] w fun e w' => e = .returned (.slice none 0 0) ∧ w' = w := by
  go_enter Tryd.func58, Tryd.ntmps58
  go_wp2
  go_ret
  exact ⟨rfl, rfl⟩
theorem growR1 (n : Nat) (h0 : 0 < n) (hn : n ≤ 1000) (w : World) : Calls Tryd.prog 58 #[.slice none 0 0, .int .i64 n] w fun e w' => ∃ v, e = .returned v ∧ w'.ownsRow w.heap.size 52 4 v 0 [] ∧ Below w.heap.size w w' := by
  obtain ⟨i0, hi0, hz0, hs, hb⟩ := infoR
  have h1 : ¬ ((n : Int) < 0) := by omega
  have h2 : wrap64 ((0 : Int) - (0 : Int)) = 0 := by unfold wrap64; omega
  have h3 : wrap64 ((n : Int) - 0) = (n : Int) := by unfold wrap64; omega
  have h4 : (n : Int) > 0 := by omega
  have hold : (Builtin.firstCells i0.size 0 (.slice none 0 0)).run Tryd.prog w.drew = .ok #[] w.drew := run_firstCells_none w.drew i0.size 0 0 0
  have hrz : ∀ ty, (Builtin.append_ #[49, 3] ty #[.slice none 0 0, .int .i64 (n : Int)]).run Tryd.prog w =
      .ok (.slice (some ⟨w.heap.size, 0, none⟩) n (grownCap w n 0 52)) (w.drew.alloc (.cells (#[] ++ Builtin.zeroCells (Value.cells (.agg #[.int .i64 0, .int .i64 0, .int .i64 0, .int .i64 0])) n ++ Builtin.zeroCells (Value.cells (.agg #[.int .i64 0, .int .i64 0, .int .i64 0, .int .i64 0])) (grownCap w n 0 52 - n)) 52)) := fun ty => by
    have h := Lib.run_append_grow_zeros w 49 3 ty 52 i0 (.agg #[.int .i64 0, .int .i64 0, .int .i64 0, .int .i64 0]) .i64 .i64 Tryd.underlying49 Tryd.underlying3 hi0 hz0 none 0 0 [] hold n h0 (by omega) (by omega) (by omega) (by rw [hb]; omega) (growslice_fits (by omega) (by rw [hb]; omega))
    rw [Nat.zero_add] at h
    exact h
  have hGn : n ≤ grownCap w n 0 52 := grownCap_ge w _ _ _
  have hG63 : grownCap w n 0 52 ≤ maxLen := grownCap_le_maxLen w n 0 52 (by unfold maxLen; omega)
  have hcell : (#[] ++ Builtin.zeroCells (Value.cells (.agg #[.int .i64 0, .int .i64 0, .int .i64 0, .int .i64 0])) n ++ Builtin.zeroCells (Value.cells (.agg #[.int .i64 0, .int .i64 0, .int .i64 0, .int .i64 0])) (grownCap w n 0 52 - n)).size = grownCap w n 0 52 * 4 := by
    simp [Builtin.zeroCells, Value.cells]; omega
  generalize grownCap w n 0 52 = G at *
  generalize #[] ++ Builtin.zeroCells (Value.cells (.agg #[.int .i64 0, .int .i64 0, .int .i64 0, .int .i64 0])) n ++ Builtin.zeroCells (Value.cells (.agg #[.int .i64 0, .int .i64 0, .int .i64 0, .int .i64 0])) (G - n) = cells at *
  have hG64 : G ≤ 9223372036854775807 := by unfold maxLen at hG63; omega
  clear hold
  go_enter Tryd.func58, Tryd.ntmps58
  go_wp2_with (at_builtin; refine Lib.wpList_append_run _ rfl _ _ _ _ rfl _ _ rfl rfl _ _ (hrz _) ?_)
  go_ret
  refine ⟨_, rfl, ⟨rfl, .inr ⟨_, _, _, rfl, Nat.le_refl _, alloc_new _ _, Nat.zero_le _, hG63, hcell, by simp⟩⟩, ?_⟩
  have hd : Below w.heap.size w w.drew := ⟨rfl, rfl, rfl, Nat.le_refl _, fun _ _ => rfl⟩
  exact hd.alloc (Nat.le_refl _) _
theorem grow_any (n : Nat) (hn : n ≤ 1000) (w : World) : Calls Tryd.prog 64 #[.slice none 0 0, .int .i64 n] w fun e w' => ∃ v, e = .returned v ∧ Own w' w.heap.size v [] ∧ Below w.heap.size w w' := by
  rcases Nat.eq_zero_or_pos n with rfl | h
  · exact (growB0 w).mono fun e w' ⟨he, hw⟩ => ⟨_, he, Own.nil _ _, hw ▸ Below.refl _ _⟩
  · exact (growB1 n h hn w).mono fun e w' ⟨v, he, ho, hb⟩ => ⟨v, he, ⟨by simp, ho⟩, hb⟩
theorem take_flat (L : List (List Int)) {k : Nat} (h : k < L.length) : (L.take (k + 1)).flatten = (L.take k).flatten ++ L.getD k [] := by
  rw [List.take_add_one, List.flatten_append]
  simp [List.getD_eq_getElem?_getD, h]
theorem flat_le (L : List (List Int)) (k : Nat) : (L.take k).flatten.length ≤ L.flatten.length := by
  have h : L.flatten = (L.take k).flatten ++ (L.drop k).flatten := by rw [← List.flatten_append, List.take_append_drop]
  rw [h, List.length_append]
  omega
theorem flat_getD_le (L : List (List Int)) {k : Nat} (h : k < L.length) : (L.take k).flatten.length + (L.getD k []).length ≤ L.flatten.length := by
  have := flat_le L (k + 1)
  rw [take_flat L h, List.length_append] at this
  exact this
/-- slices.Concat of lists of bytes. -/
theorem concat_any {w : World} {g n : Nat} {vs : List Value} {L : List (List Int)} (S : Ls w g vs L) (hn : L.length = n) (h10 : n ≤ 10) (hl : L.flatten.length ≤ 100) :
    Calls Tryd.prog 35 #[.slice (some ⟨g, 0, none⟩) n n] w fun e w' => ∃ v, e = .returned v ∧ Own w' w.heap.size v L.flatten ∧ Below w.heap.size w w' := by
  subst hn
  go_enter Tryd.func35, Tryd.ntmps35
  go_wp2_with fail
  go_loopw [3, 11] (fun ss ii W => ∃ k s : Nat, k ≤ L.length ∧ RowKit.Hid ((L.take k).flatten.length = s) ∧ s ≤ 100 ∧ ss = .int .i64 s ∧ ii = .int .i64 k ∧ w = W) (fun _ ii _ => L.length - (intOf ii).toNat)
  case atStart => exact ⟨0, 0, by omega, Lib.hid (by simp), by omega, rfl, rfl, rfl⟩
  case round =>
    obtain ⟨k, s, hk, hs, hs1, rfl, rfl, rfl⟩ := hrel
    by_cases hlt : k < L.length
    · have hz : ((k : Int) < (L.length : Int)) = True := eq_true (by omega)
      have hwr : IntKind.i64.wrap ((k : Int) + 1) = (k : Int) + 1 := by rw [IntKind.wrap_i64]; omega
      obtain ⟨a, c, hv, hb⟩ := S.at' k hlt
      have hc := S.cell hlt
      have hf := flat_getD_le L hlt
      have ht := take_flat L hlt
      have hs' : (L.take (k + 1)).flatten.length = s + (L.getD k []).length := by rw [ht, List.length_append, hs.out]
      rw [hs.out] at hf
      rw [hv] at hc
      have HH := Lib.hid hs'
      clear hs' ht hs hv hb
      generalize (L.getD k []).length = m at *
      have hsm : s + m ≤ 100 := by omega
      clear hf
      have hws : wrap64 ((s : Int) + (m : Int)) = ((s + m : Nat) : Int) := by unfold wrap64; omega
      have hneg : ¬ (((s + m : Nat) : Int) < 0) := by omega
      go_wp2_with fail
      go_roundw
      case rel => exact ⟨k + 1, s + m, by omega, HH, hsm, by go_num, by go_num, trivial⟩
      case measure => simp [intOf]; omega
    · have hz : ((k : Int) < (L.length : Int)) = False := eq_false (by omega)
      obtain rfl : k = L.length := by omega
      have hG := Lib.hid (grow_any s (by omega) w)
      go_wp2_with ((with_reducible refine hG.out.mono ?_); rintro e W1 ⟨v, rfl, O1, b1⟩)
      clear hG
      go_loopw [6, 27] (fun vv ii W => ∃ k : Nat, k ≤ L.length ∧ Own W w.heap.size vv (L.take k).flatten ∧ ii = .int .i64 k ∧ Below w.heap.size w W) (fun _ ii _ => L.length - (intOf ii).toNat)
      case atStart => exact ⟨0, by omega, by simpa using O1, rfl, b1⟩
      case round =>
        obtain ⟨k, hk, O, rfl, b⟩ := hrel
        have S2 := S.below b
        by_cases hlt : k < L.length
        · have hz : ((k : Int) < (L.length : Int)) = True := eq_true (by omega)
          have hwr : IntKind.i64.wrap ((k : Int) + 1) = (k : Int) + 1 := by rw [IntKind.wrap_i64]; omega
          obtain ⟨a, c, hv, hb⟩ := S2.at' k hlt
          have hc := S2.cell hlt
          have hf := flat_getD_le L hlt
          have ht := Lib.hid (take_flat L hlt)
          rw [hv] at hc
          have hf2 : ((L.take k).flatten).length + (L.getD k []).length ≤ 100 := by omega
          clear hv hf
          generalize (L.take k).flatten = xs at *
          generalize L.getD k [] = ys at *
          have HF := Lib.hid hf2
          clear hf2
          go_wp2_with (at_builtin; refine append_bytes rfl _ _ rfl w.heap.size _ xs ys rfl O b.size a _ c rfl hb HF.out ?_; intro v2 W2 O2 b2)
          go_roundw
          case rel => exact ⟨k + 1, by omega, by rw [ht.out]; exact O2, by go_num, b.trans b2⟩
          case measure => simp [intOf]; omega
        · have hz : ((k : Int) < (L.length : Int)) = False := eq_false (by omega)
          obtain rfl : k = L.length := by omega
          go_wp2_with fail
          go_ret
          exact ⟨_, rfl, by rw [List.take_length] at O; exact O, b⟩
end Go.Proofs.YtcgleggdochbeaaDoor
namespace Go.Proofs.YtcgleggdochbeaaDoor
open Go.RowKit
set_option maxRecDepth 100000
set_option maxHeartbeats 8000000
set_option linter.unusedVariables false
set_option linter.unusedSimpArgs false
set_option linter.unusedSectionVars false
abbrev enC (r : En) : Array Value := #[.int .i64 r.code, .int .i64 r.num, .int .i64 r.a, .int .i64 r.b]
abbrev enV (r : En) : Value := .agg (enC r)
def enL (rs : List En) : List Value := rs.flatMap (fun r => (enC r).toList)
theorem enL_len (rs : List En) : (enL rs).length = rs.length * 4 := by
  unfold enL
  induction rs with
  | nil => rfl
  | cons r rs ih => rw [List.flatMap_cons, List.length_append, ih]; simp; omega
theorem enL_app (a b : List En) : enL (a ++ b) = enL a ++ enL b := by unfold enL; rw [List.flatMap_append]
theorem enL_one (rs : List En) : ∀ u ∈ enL rs, u.oneCell' = true := by
  intro u hu
  unfold enL at hu
  obtain ⟨r, -, hu⟩ := List.mem_flatMap.1 hu
  simp only [List.mem_cons, List.not_mem_nil, or_false] at hu
  rcases hu with rfl | rfl | rfl | rfl <;> rfl
theorem enL_at (rs : List En) {i j : Nat} (hj : j < 4) (r : En) (hi : rs[i]? = some r) : (enL rs)[i * 4 + j]? = (enC r)[j]? := by
  induction rs generalizing i with
  | nil => simp at hi
  | cons q rs ih =>
    have e : enL (q :: rs) = (enC q).toList ++ enL rs := by unfold enL; rw [List.flatMap_cons]
    rw [e]
    cases i with
    | zero =>
      simp only [List.getElem?_cons_zero, Option.some.injEq] at hi
      subst hi
      rw [List.getElem?_append_left (by simp; omega), Nat.zero_mul, Nat.zero_add]
      simp
    | succ i =>
      simp only [List.getElem?_cons_succ] at hi
      rw [List.getElem?_append_right (by simp; omega), ← ih hi]
      congr 1
      simp; omega
def OwnR (w : World) (N : Nat) (v : Value) (rs : List En) : Prop := w.ownsRow N 52 4 v rs.length (enL rs)
theorem OwnR.base {w : World} {N M : Nat} {v : Value} {rs : List En} (h : OwnR w N v rs) (hM : M ≤ N) : OwnR w M v rs := by
  obtain ⟨hl, h | ⟨g, cap, cur, rfl, hN, rest⟩⟩ := h
  · exact ⟨hl, .inl h⟩
  · exact ⟨hl, .inr ⟨g, cap, cur, rfl, Nat.le_trans hM hN, rest⟩⟩
theorem OwnR.below {w w' : World} {N : Nat} {v : Value} {rs : List En} (h : OwnR w N v rs) (b : Below w.heap.size w w') : OwnR w' N v rs := by
  obtain ⟨hl, h | ⟨g, cap, cur, rfl, hN, hg, rest⟩⟩ := h
  · exact ⟨hl, .inl h⟩
  · exact ⟨hl, .inr ⟨g, cap, cur, rfl, hN, (b.block g (Array.getElem?_eq_some_iff.1 hg).1).trans hg, rest⟩⟩
theorem OwnR.nil (w : World) (N : Nat) : OwnR w N (.slice none 0 0) [] := World.ownsRow_nil w N 52 4
theorem OwnR.new (w : World) (N : Nat) (hN : N ≤ w.heap.size) (rs : List En) (hl : rs.length ≤ 100) {cells : Array Value} (hc : cells = (enL rs).toArray) :
    OwnR (w.alloc (.cells cells 52)) N (.slice (some ⟨w.heap.size, 0, none⟩) rs.length rs.length) rs := by
  subst hc
  have := enL_len rs
  exact ⟨this, .inr ⟨w.heap.size, rs.length, _, rfl, hN, alloc_new _ _, Nat.le_refl _, by simp only [maxLen]; omega, by simpa using this, by
    rw [← this]; simp⟩⟩
theorem OwnR.lens {w : World} {N : Nat} {v : Value} {rs : List En} (h : OwnR w N v rs) : ∃ a cap, v = .slice a rs.length cap ∧ rs.length ≤ cap ∧ cap ≤ 9223372036854775807 ∧ ((rs = [] ∧ a = none ∧ cap = 0) ∨ ∃ g, a = some ⟨g, 0, none⟩ ∧ g < w.heap.size ∧ ∀ i u, (enL rs)[i]? = some u → w.cell? ⟨g, i, none⟩ = some u) := by
  obtain ⟨hl, ⟨rfl, h0⟩ | ⟨g, cap, cur, rfl, hN, hg, hn, hm, hs, ht⟩⟩ := h
  · obtain rfl := List.eq_nil_of_length_eq_zero h0
    exact ⟨none, 0, rfl, Nat.le_refl _, by decide, .inl ⟨rfl, rfl, rfl⟩⟩
  · refine ⟨_, cap, rfl, hn, by simp only [maxLen] at hm; omega, .inr ⟨g, rfl, (Array.getElem?_eq_some_iff.1 hg).1, fun i u hi => ?_⟩⟩
    rw [← ht, List.getElem?_take] at hi
    split at hi
    · simp only [World.cell?, hg]
      simpa using hi
    · cases hi
theorem append_rows {ops : Array Oper} {rest : List Oper} {o : Oper} {a : Act} {w : World} {Q : Exit → Act → World → Prop} (hgd : o.guard = none) (s x : Operand)
    (ho : o.op = .call { callee := .builtin .append, args := #[s, x], argTypes := #[49, 49] })
    (N : Nat) (v : Value) (xs ys : List En) (hs : a.eval s = v) (h : OwnR w N v xs) (hN : N ≤ w.heap.size)
    (v2 : Value) (hx : a.eval x = v2) {M : Nat} (B : OwnR w M v2 ys) (hl : xs.length + ys.length ≤ 100)
    (k : ∀ v' w', OwnR w' N v' (xs ++ ys) → Below N w w' → wpList Tryd.prog ops Q rest (a.put o.dst v') w') : wpList Tryd.prog ops Q (o :: rest) a w := by
  obtain ⟨i, hi, hz, hsz, hby⟩ := infoR
  have hrow : ∀ k, v.ownBlock = some k → N ≤ k := fun k hk => (h.lt k hk).1
  obtain ⟨b, c, rfl, hc1, hc2, hr⟩ := B.lens
  have fin : ∀ v' w', w'.ownsRow N 52 4 v' (xs.length + ys.length) (enL xs ++ enL ys) → w.grownBy w' v.ownBlock → wpList Tryd.prog ops Q rest (a.put o.dst v') w' := by
    intro v' w' h1 h2
    refine k v' w' ?_ (grown_below h2 hN hrow)
    unfold OwnR
    rw [List.length_append, enL_app]; exact h1
  rcases hr with ⟨rfl, rfl, rfl⟩ | ⟨g, rfl, -, hc⟩
  · exact wpList_append_own_none hgd s x 49 ho N 52 i 4 Tryd.underlying49 hi v xs.length _ hs h hx (k v w (by rw [List.append_nil]; exact h) (Below.refl _ _))
  · refine wpList_append_own w hgd s x 49 ho N 52 i _ 4 32 Tryd.underlying49 hi hz hsz hby rfl (by decide) v xs.length (enL xs) hs h ⟨g, 0, none⟩ ys.length c (enL ys) hx (enL_len ys) (fun j u hj => ?_) (enL_one ys) (by simp only [maxLen]; omega) (by omega) hN (fun v' w' h1 h2 _ => fin v' w' h1 h2)
    have e : (⟨g, 0, none⟩ : Addr).add j = ⟨g, j, none⟩ := by unfold Addr.add; split <;> simp_all
    rw [e]
    exact hc j u hj
structure Lr (W : World) (g : Nat) (vs : List Value) (L : List (List En)) : Prop where
  blk : Blk W g 49 vs.toArray
  len : vs.length = L.length
  at' : ∀ i, i < L.length → OwnR W 0 (vs.getD i undef) (L.getD i [])
theorem Lr.below {w w' : World} {g : Nat} {vs : List Value} {L : List (List En)} (h : Lr w g vs L) (b : Below w.heap.size w w') : Lr w' g vs L :=
  ⟨h.blk.below b h.blk.lt, h.len, fun i hi => (h.at' i hi).below b⟩
theorem Lr.cell {w : World} {g : Nat} {vs : List Value} {L : List (List En)} (h : Lr w g vs L) {i : Nat} (hi : i < L.length) : w.cell? ⟨g, i, none⟩ = some (vs.getD i undef) := by
  refine h.blk.cell ?_
  have : i < vs.length := by rw [h.len]; exact hi
  simp [List.getD_eq_getElem?_getD, this]
theorem growr_any (n : Nat) (hn : n ≤ 1000) (w : World) : Calls Tryd.prog 58 #[.slice none 0 0, .int .i64 n] w fun e w' => ∃ v, e = .returned v ∧ OwnR w' w.heap.size v [] ∧ Below w.heap.size w w' := by
  rcases Nat.eq_zero_or_pos n with rfl | h
  · exact (growR0 w).mono fun e w' ⟨he, hw⟩ => ⟨_, he, OwnR.nil _ _, hw ▸ Below.refl _ _⟩
  · exact (growR1 n h hn w).mono fun e w' ⟨v, he, ho, hb⟩ => ⟨v, he, ho, hb⟩
theorem take_flatr (L : List (List En)) {k : Nat} (h : k < L.length) : (L.take (k + 1)).flatten = (L.take k).flatten ++ L.getD k [] := by
  rw [List.take_add_one, List.flatten_append]
  simp [List.getD_eq_getElem?_getD, h]
theorem flat_ler (L : List (List En)) (k : Nat) : (L.take k).flatten.length ≤ L.flatten.length := by
  have h : L.flatten = (L.take k).flatten ++ (L.drop k).flatten := by rw [← List.flatten_append, List.take_append_drop]
  rw [h, List.length_append]
  omega
theorem flat_getD_ler (L : List (List En)) {k : Nat} (h : k < L.length) : (L.take k).flatten.length + (L.getD k []).length ≤ L.flatten.length := by
  have := flat_ler L (k + 1)
  rw [take_flatr L h, List.length_append] at this
  exact this
/-- slices.Concat of lists of rows. -/
theorem concatr_any {w : World} {g n : Nat} {vs : List Value} {L : List (List En)} (S : Lr w g vs L) (hn : L.length = n) (h10 : n ≤ 10) (hl : L.flatten.length ≤ 100) :
    Calls Tryd.prog 28 #[.slice (some ⟨g, 0, none⟩) n n] w fun e w' => ∃ v, e = .returned v ∧ OwnR w' w.heap.size v L.flatten ∧ Below w.heap.size w w' := by
  subst hn
  go_enter Tryd.func28, Tryd.ntmps28
  go_wp2_with fail
  go_loopw [3, 11] (fun ss ii W => ∃ k s : Nat, k ≤ L.length ∧ RowKit.Hid ((L.take k).flatten.length = s) ∧ s ≤ 100 ∧ ss = .int .i64 s ∧ ii = .int .i64 k ∧ w = W) (fun _ ii _ => L.length - (intOf ii).toNat)
  case atStart => exact ⟨0, 0, by omega, Lib.hid (by simp), by omega, rfl, rfl, rfl⟩
  case round =>
    obtain ⟨k, s, hk, hs, hs1, rfl, rfl, rfl⟩ := hrel
    by_cases hlt : k < L.length
    · have hz : ((k : Int) < (L.length : Int)) = True := eq_true (by omega)
      have hwr : IntKind.i64.wrap ((k : Int) + 1) = (k : Int) + 1 := by rw [IntKind.wrap_i64]; omega
      obtain ⟨a, c, hv, -⟩ := (S.at' k hlt).lens
      have hc := S.cell hlt
      have hf := flat_getD_ler L hlt
      have ht := take_flatr L hlt
      have hs' : (L.take (k + 1)).flatten.length = s + (L.getD k []).length := by rw [ht, List.length_append, hs.out]
      rw [hs.out] at hf
      rw [hv] at hc
      have HH := Lib.hid hs'
      clear hs' ht hs hv
      generalize (L.getD k []).length = m at *
      have hsm : s + m ≤ 100 := by omega
      clear hf
      have hws : wrap64 ((s : Int) + (m : Int)) = ((s + m : Nat) : Int) := by unfold wrap64; omega
      have hneg : ¬ (((s + m : Nat) : Int) < 0) := by omega
      go_wp2_with fail
      go_roundw
      case rel => exact ⟨k + 1, s + m, by omega, HH, hsm, by go_num, by go_num, trivial⟩
      case measure => simp [intOf]; omega
    · have hz : ((k : Int) < (L.length : Int)) = False := eq_false (by omega)
      obtain rfl : k = L.length := by omega
      have hG := Lib.hid (growr_any s (by omega) w)
      go_wp2_with ((with_reducible refine hG.out.mono ?_); rintro e W1 ⟨v, rfl, O1, b1⟩)
      clear hG
      go_loopw [6, 27] (fun vv ii W => ∃ k : Nat, k ≤ L.length ∧ OwnR W w.heap.size vv (L.take k).flatten ∧ ii = .int .i64 k ∧ Below w.heap.size w W) (fun _ ii _ => L.length - (intOf ii).toNat)
      case atStart => exact ⟨0, by omega, by simpa using O1, rfl, b1⟩
      case round =>
        obtain ⟨k, hk, O, rfl, b⟩ := hrel
        have S2 := S.below b
        by_cases hlt : k < L.length
        · have hz : ((k : Int) < (L.length : Int)) = True := eq_true (by omega)
          have hwr : IntKind.i64.wrap ((k : Int) + 1) = (k : Int) + 1 := by rw [IntKind.wrap_i64]; omega
          have hb := S2.at' k hlt
          have hc := S2.cell hlt
          have hf := flat_getD_ler L hlt
          have ht := Lib.hid (take_flatr L hlt)
          have hf2 : ((L.take k).flatten).length + (L.getD k []).length ≤ 100 := by omega
          clear hf
          generalize (L.take k).flatten = xs at *
          generalize L.getD k [] = ys at *
          generalize vs.getD k undef = vk at *
          have HF := Lib.hid hf2
          clear hf2
          go_wp2_with (at_builtin; refine append_rows rfl _ _ rfl w.heap.size _ xs ys rfl O b.size _ rfl hb HF.out ?_; intro v2 W2 O2 b2)
          go_roundw
          case rel => exact ⟨k + 1, by omega, by rw [ht.out]; exact O2, by go_num, b.trans b2⟩
          case measure => simp [intOf]; omega
        · have hz : ((k : Int) < (L.length : Int)) = False := eq_false (by omega)
          obtain rfl : k = L.length := by omega
          go_wp2_with fail
          go_ret
          exact ⟨_, rfl, by rw [List.take_length] at O; exact O, b⟩
end Go.Proofs.YtcgleggdochbeaaDoor
namespace Go.Proofs.YtcgleggdochbeaaDoor
open Go.RowKit
set_option maxRecDepth 100000
set_option maxHeartbeats 8000000
set_option linter.unusedVariables false
set_option linter.unusedSimpArgs false
set_option linter.unusedSectionVars false
theorem exponent_any (s : Int) (w : World) : Calls Tryd.prog 80 #[.int .u32 s] w fun e w' => e = .returned (.int .i64 (scN s)) ∧ w = w' := by
  unfold scN
  by_cases h2 : s = 2
  · subst h2
    go_enter Tryd.func80, Tryd.ntmps80
    go_wp2
    go_ret
    exact ⟨rfl, rfl⟩
  by_cases h4 : s = 4
  · subst h4
    go_enter Tryd.func80, Tryd.ntmps80
    go_wp2
    go_ret
    exact ⟨rfl, rfl⟩
  by_cases h8 : s = 8
  · subst h8
    go_enter Tryd.func80, Tryd.ntmps80
    go_wp2
    go_ret
    exact ⟨rfl, rfl⟩
  rw [if_neg h2, if_neg h4, if_neg h8]
  have e2 : (s == 2) = false := by simp [h2]
  have e4 : (s == 4) = false := by simp [h4]
  have e8 : (s == 8) = false := by simp [h8]
  go_enter Tryd.func80, Tryd.ntmps80
  go_wp2
  go_ret
  exact ⟨rfl, rfl⟩
theorem join_n : ∀ h : Nat, h < 4 → ∀ m : Nat, m < 8 → ∀ l : Nat, l < 8 → bits .or .i64 (bits .or .i64 (64 * (h : Int)) (8 * (m : Int))) (l : Int) = 64 * (h : Int) + 8 * (m : Int) + (l : Int) := of_decide_eq_true (by kernel_rfl)
theorem join_i {h m l : Int} (hh : 0 ≤ h ∧ h < 4) (hm : 0 ≤ m ∧ m < 8) (hl : 0 ≤ l ∧ l < 8) : bits .or .i64 (bits .or .i64 (64 * h) (8 * m)) l = 64 * h + 8 * m + l := by
  obtain ⟨a, rfl⟩ := Int.eq_ofNat_of_zero_le hh.1
  obtain ⟨b, rfl⟩ := Int.eq_ofNat_of_zero_le hm.1
  obtain ⟨c, rfl⟩ := Int.eq_ofNat_of_zero_le hl.1
  exact join_n a (by omega) b (by omega) c (by omega)
theorem joined_any {h m l : Int} (hh : 0 ≤ h ∧ h < 4) (hm : 0 ≤ m ∧ m < 8) (hl : 0 ≤ l ∧ l < 8) (w : World) : Calls Tryd.prog 62 #[.int .i64 h, .int .i64 m, .int .i64 l] w fun e w' => e = .returned (.int .u8 (64 * h + 8 * m + l)) ∧ w = w' := by
  have hj := join_i hh hm hl
  have h1 : IntKind.i64.wrap (h * 64) = 64 * h := by rw [IntKind.wrap_i64]; omega
  have h2 : IntKind.i64.wrap (m * 8) = 8 * m := by rw [IntKind.wrap_i64]; omega
  have h3 : (64 * h + 8 * m + l) % 256 = 64 * h + 8 * m + l := by omega
  generalize 64 * h + 8 * m + l = z at *
  go_enter Tryd.func62, Tryd.ntmps62
  go_wp2_with fail
  go_ret
  exact ⟨rfl, rfl⟩
theorem below3 (w : World) (a b c : Obj) : Below w.heap.size w (((w.alloc a).alloc b).alloc c) := (((Below.refl _ w).alloc (Nat.le_refl _) a).alloc (by simp) b).alloc (by simp; omega) c
theorem operand_a (r : En) (k : In) (w : World)  : Calls Tryd.prog 61 #[enV r, inV k, .int .i64 r.a] w fun e w' => e = .returned (opV k.A) ∧ Below w.heap.size w w' := by
  go_enter Tryd.func61, Tryd.ntmps61
  go_wp2_with fail
  exact bodyPost_ret (v := opV k.A) (results_cell_row rfl _ _ (w.heap.size + 1 + 1) 24 (op6 k.A) (0, 0) _ rfl (alloc3 _ _ _ _).2.2 Tryd.underlying24 rfl (szOp onZ)) rfl ⟨rfl, below3 _ _ _ _⟩
theorem operand_b (r : En) (k : In) (w : World) {d : Int} (h : (d == r.a) = false) (hb : (d == r.b) = true) : Calls Tryd.prog 61 #[enV r, inV k, .int .i64 d] w fun e w' => e = .returned (opV k.B) ∧ Below w.heap.size w w' := by
  go_enter Tryd.func61, Tryd.ntmps61
  go_wp2_with fail
  exact bodyPost_ret (v := opV k.B) (results_cell_row rfl _ _ (w.heap.size + 1 + 1) 24 (op6 k.B) (0, 0) _ rfl (alloc3 _ _ _ _).2.2 Tryd.underlying24 rfl (szOp onZ)) rfl ⟨rfl, below3 _ _ _ _⟩
theorem operand_z (r : En) (k : In) (w : World) {d : Int} (h : (d == r.a) = false) (hb : (d == r.b) = false) : Calls Tryd.prog 61 #[enV r, inV k, .int .i64 d] w fun e w' => e = .returned (opV onZ) ∧ Below w.heap.size w w' := by
  go_enter Tryd.func61, Tryd.ntmps61
  go_wp2_with fail
  exact bodyPost_ret (v := opV onZ) (results_cell_row rfl _ _ (w.heap.size + 1 + 1) 24 (op6 onZ) (0, 0) _ rfl (alloc3 _ _ _ _).2.2 Tryd.underlying24 rfl (szOp onZ)) rfl ⟨rfl, below3 _ _ _ _⟩
theorem operand_any (r : En) (k : In) (d : Int) (w : World) : Calls Tryd.prog 61 #[enV r, inV k, .int .i64 d] w fun e w' => e = .returned (opV (oprE r k d)) ∧ Below w.heap.size w w' := by
  unfold oprE
  by_cases ha : d = r.a
  · rw [if_pos ha, ha]; exact operand_a r k w
  · rw [if_neg ha]
    by_cases hb : d = r.b
    · rw [if_pos hb]; exact operand_b r k w (by simp [ha]) (by simp [hb])
    · rw [if_neg hb]; exact operand_z r k w (by simp [ha]) (by simp [hb])
theorem Bs.cut {W : World} {g : Nat} {x : Int} (h : Blk W g 92 #[.int .u8 (x % 256), .int .u8 (x / 256 % 256), .int .u8 (x / 65536 % 256), .int .u8 (x / 16777216)]) (hx : 0 ≤ x ∧ x ≤ 4294967295) :
    Bs W (.slice (some ⟨g, 0, none⟩) 1 4) [x % 256] ∧ Bs W (.slice (some ⟨g, 0, none⟩) 4 4) (wB x) := by
  refine ⟨⟨_, 4, rfl, ⟨⟨rfl, ?_, .inr ⟨g, 0, rfl, h.lt, fun i hi => ?_⟩⟩, by simp [wB], by decide, fun e => by cases e⟩⟩, ⟨_, 4, rfl, ⟨⟨rfl, wB_bd x hx, .inr ⟨g, 0, rfl, h.lt, fun i hi => ?_⟩⟩, by simp [wB], by decide, fun e => by cases e⟩⟩⟩
  · intro z hz; simp at hz; omega
  · have hi : i < 1 := hi
    obtain rfl : i = 0 := by omega
    exact h.cell rfl
  · have hi : i < 4 := hi
    rcases (by omega : i = 0 ∨ i = 1 ∨ i = 2 ∨ i = 3) with rfl | rfl | rfl | rfl <;> exact h.cell rfl
theorem number_b (o : On) (ho : OkO o) (w : World)  : Calls Tryd.prog 37 #[opV o, .int .i64 4] w fun e w' => ∃ v, e = .returned v ∧ Bs w' v ([o.m % 256]) ∧ Below w.heap.size w w' := by
  have hb := Lib.hid (fun W => bytes_any o.m ho.m W)
  go_enter Tryd.func37, Tryd.ntmps37
  go_wp2_with ((with_reducible refine (hb.out _).mono ?_); rintro e w1 ⟨rfl, rfl⟩)
  go_ret
  exact ⟨_, rfl, (Bs.cut (by simpa using Blk.new ((w.alloc _).alloc _) 92 _) ho.m).1, below3 _ _ _ _⟩
theorem number_w (o : On) (ho : OkO o) (w : World)  : Calls Tryd.prog 37 #[opV o, .int .i64 5] w fun e w' => ∃ v, e = .returned v ∧ Bs w' v (wB o.m) ∧ Below w.heap.size w w' := by
  have hb := Lib.hid (fun W => bytes_any o.m ho.m W)
  go_enter Tryd.func37, Tryd.ntmps37
  go_wp2_with ((with_reducible refine (hb.out _).mono ?_); rintro e w1 ⟨rfl, rfl⟩)
  go_ret
  exact ⟨_, rfl, (Bs.cut (by simpa using Blk.new ((w.alloc _).alloc _) 92 _) ho.m).2, below3 _ _ _ _⟩
theorem number_z (o : On) (ho : OkO o) (w : World) {d : Int} (h4 : (d == 4) = false) (h5 : (d == 5) = false) : Calls Tryd.prog 37 #[opV o, .int .i64 d] w fun e w' => ∃ v, e = .returned v ∧ Bs w' v ([]) ∧ Below w.heap.size w w' := by
  have hb := Lib.hid (fun W => bytes_any o.m ho.m W)
  go_enter Tryd.func37, Tryd.ntmps37
  go_wp2_with ((with_reducible refine (hb.out _).mono ?_); rintro e w1 ⟨rfl, rfl⟩)
  go_ret
  exact ⟨_, rfl, Bs.nil _, below3 _ _ _ _⟩
theorem num_any (o : On) (ho : OkO o) (d : Int) (w : World) : Calls Tryd.prog 37 #[opV o, .int .i64 d] w fun e w' => ∃ v, e = .returned v ∧ Bs w' v (numE o d) ∧ Below w.heap.size w w' := by
  unfold numE
  by_cases h4 : d = 4
  · subst h4; exact number_b o ho w
  · rw [if_neg h4]
    by_cases h5 : d = 5
    · subst h5; exact number_w o ho w
    · rw [if_neg h5]; exact number_z o ho w (by simp [h4]) (by simp [h5])
end Go.Proofs.YtcgleggdochbeaaDoor
namespace Go.Proofs.YtcgleggdochbeaaDoor
open Go.RowKit
set_option maxRecDepth 100000
set_option maxHeartbeats 8000000
set_option linter.unusedVariables false
set_option linter.unusedSimpArgs false
set_option linter.unusedSectionVars false
theorem drew_below (w : World) {n : Nat} (hn : n ≤ w.heap.size) : Below n w w.drew := ⟨rfl, rfl, rfl, Nat.le_refl _, fun _ _ => rfl⟩
theorem five (w : World) (a b c d e : Obj) : (((((w.alloc a).alloc b).alloc c).alloc d).alloc e).drew.heap[w.heap.size + 1]? = some b ∧ (((((w.alloc a).alloc b).alloc c).alloc d).alloc e).drew.heap[w.heap.size + 1 + 1 + 1]? = some d
    ∧ Below w.heap.size w (((((w.alloc a).alloc b).alloc c).alloc d).alloc e).drew := by
  have k2 := ((Below.refl w.heap.size w).alloc (Nat.le_refl _) a).alloc (by simp) b
  have k4 := (k2.alloc (by simp; omega) c).alloc (by simp; omega) d
  have k5 := k4.alloc (by simp; omega) e
  refine ⟨?_, ?_, k5.trans (drew_below _ (by simp; omega))⟩
  · have h1 : ((w.alloc a).alloc b).heap[w.heap.size + 1]? = some b := by have := alloc_new (w.alloc a) b; simpa using this
    have h2 : Below (w.heap.size + 2) ((w.alloc a).alloc b) ((((w.alloc a).alloc b).alloc c).alloc d |>.alloc e) := ((Below.refl _ _).alloc (by simp) c |>.alloc (by simp) d).alloc (by simp) e
    exact (h2.block _ (by omega)).trans h1
  · have h1 : ((((w.alloc a).alloc b).alloc c).alloc d).heap[w.heap.size + 1 + 1 + 1]? = some d := by have := alloc_new (((w.alloc a).alloc b).alloc c) d; simpa using this
    have h2 : Below (w.heap.size + 4) ((((w.alloc a).alloc b).alloc c).alloc d) (((((w.alloc a).alloc b).alloc c).alloc d).alloc e) := (Below.refl _ _).alloc (by simp) e
    exact (h2.block _ (by omega)).trans h1
theorem distances_far (o : On) (ho : OkO o) (hb : (o.b == -1) = true) (w : World) : Calls Tryd.prog 81 #[opV o] w fun e w' => ∃ v0 v1 v2, e = .returned (.agg #[v0, v1, v2]) ∧ Bs w' v0 (wB o.m) ∧ Bs w' v1 [o.m % 256] ∧ Bs w' v2 (wB o.m) ∧ Below w.heap.size w w' := by
  have hy := Lib.hid (fun W => bytes_any o.m ho.m W)
  go_enter Tryd.func81, Tryd.ntmps81
  go_upto_region 2 with ((with_reducible refine (hy.out _).mono ?_); rintro e w1 ⟨rfl, rfl⟩)
  go_region
  go_wp2_with fail
  have hF := five w (.cells (op6 o) 24) (.cells #[.slice (some ⟨w.heap.size + 1 + 1 + 1, 0, none⟩) 4 4, .slice (some ⟨w.heap.size + 1 + 1 + 1, 0, none⟩) 1 4, .slice (some ⟨w.heap.size + 1 + 1 + 1, 0, none⟩) 4 4] 105) (.cells #[.int .u8 (o.m % 256), .int .u8 (o.m / 256 % 256), .int .u8 (o.m / 65536 % 256), .int .u8 (o.m / 16777216)] 92) (.cells #[.int .u8 (o.m % 256), .int .u8 (o.m / 256 % 256), .int .u8 (o.m / 65536 % 256), .int .u8 (o.m / 16777216)] 92) (.cells #[.slice (some ⟨w.heap.size + 1 + 1 + 1, 0, none⟩) 4 4, .slice (some ⟨w.heap.size + 1 + 1 + 1, 0, none⟩) 1 4, .slice (some ⟨w.heap.size + 1 + 1 + 1, 0, none⟩) 4 4] 105)
  have hC := Bs.cut ⟨hF.2.1⟩ ho.m
  exact bodyPost_ret (v := .agg #[.slice (some ⟨w.heap.size + 1 + 1 + 1, 0, none⟩) 4 4, .slice (some ⟨w.heap.size + 1 + 1 + 1, 0, none⟩) 1 4, .slice (some ⟨w.heap.size + 1 + 1 + 1, 0, none⟩) 4 4]) (results_cell_row rfl _ _ (w.heap.size + 1) 105 _ (0, 0) _ rfl hF.1 Tryd.underlying105 rfl (by kernel_rfl)) rfl ⟨_, _, _, rfl, hC.2, hC.1, hC.2, hF.2.2⟩
theorem distances_near (o : On) (ho : OkO o) (hb : (o.b == -1) = false) (w : World) : Calls Tryd.prog 81 #[opV o] w fun e w' => ∃ v0 v1 v2, e = .returned (.agg #[v0, v1, v2]) ∧ Bs w' v0 ([]) ∧ Bs w' v1 [o.m % 256] ∧ Bs w' v2 (wB o.m) ∧ Below w.heap.size w w' := by
  have hy := Lib.hid (fun W => bytes_any o.m ho.m W)
  go_enter Tryd.func81, Tryd.ntmps81
  go_upto_region 2 with ((with_reducible refine (hy.out _).mono ?_); rintro e w1 ⟨rfl, rfl⟩)
  go_region
  go_wp2_with fail
  have hF := five w (.cells (op6 o) 24) (.cells #[.slice none 0 0, .slice (some ⟨w.heap.size + 1 + 1 + 1, 0, none⟩) 1 4, .slice (some ⟨w.heap.size + 1 + 1 + 1, 0, none⟩) 4 4] 105) (.cells #[.int .u8 (o.m % 256), .int .u8 (o.m / 256 % 256), .int .u8 (o.m / 65536 % 256), .int .u8 (o.m / 16777216)] 92) (.cells #[.int .u8 (o.m % 256), .int .u8 (o.m / 256 % 256), .int .u8 (o.m / 65536 % 256), .int .u8 (o.m / 16777216)] 92) (.cells #[.slice none 0 0, .slice (some ⟨w.heap.size + 1 + 1 + 1, 0, none⟩) 1 4, .slice (some ⟨w.heap.size + 1 + 1 + 1, 0, none⟩) 4 4] 105)
  have hC := Bs.cut ⟨hF.2.1⟩ ho.m
  exact bodyPost_ret (v := .agg #[.slice none 0 0, .slice (some ⟨w.heap.size + 1 + 1 + 1, 0, none⟩) 1 4, .slice (some ⟨w.heap.size + 1 + 1 + 1, 0, none⟩) 4 4]) (results_cell_row rfl _ _ (w.heap.size + 1) 105 _ (0, 0) _ rfl hF.1 Tryd.underlying105 rfl (by kernel_rfl)) rfl ⟨_, _, _, rfl, Bs.nil _, hC.1, hC.2, hF.2.2⟩
theorem distances_any (o : On) (ho : OkO o) (w : World) : Calls Tryd.prog 81 #[opV o] w fun e w' => ∃ v0 v1 v2, e = .returned (.agg #[v0, v1, v2]) ∧ Bs w' v0 (disE o 0) ∧ Bs w' v1 (disE o 1) ∧ Bs w' v2 (disE o 2) ∧ Below w.heap.size w w' := by
  by_cases hb : o.b = -1
  · have h0 : disE o 0 = wB o.m := by unfold disE; rw [if_neg (by decide), if_neg (by decide), if_pos hb]
    rw [h0]; exact distances_far o ho (by simp [hb]) w
  · have h0 : disE o 0 = [] := by unfold disE; rw [if_neg (by decide), if_neg (by decide), if_neg hb]
    rw [h0]; exact distances_near o ho (by simp [hb]) w
end Go.Proofs.YtcgleggdochbeaaDoor
namespace Go.Proofs.YtcgleggdochbeaaDoor
open Go.RowKit
set_option maxRecDepth 100000
set_option maxHeartbeats 8000000
set_option linter.unusedVariables false
set_option linter.unusedSimpArgs false
set_option linter.unusedSectionVars false
theorem info_slm : (Tryd.prog.info? 28).map (fun i => (i.zero, i.size, i.bytes)) = some (some (.slice none 0 0), 1, 24) := by kernel_rfl
theorem info_sl : ∃ i, Tryd.prog.info? 28 = some i ∧ i.zero = some (.slice none 0 0) ∧ i.size = 1 ∧ i.bytes = 24 := by
  have h := info_slm
  cases hi : Tryd.prog.info? 28 with
  | none => rw [hi] at h; cases h
  | some i =>
    rw [hi] at h
    simp only [Option.map_some, Option.some.injEq, Prod.mk.injEq] at h
    exact ⟨i, rfl, h.1, h.2.1, h.2.2⟩
def El (W : World) (g : Option Nat) (u : Value) (zs : List Int) : Prop := ∃ a c, u = .slice a zs.length c ∧ Ba W a zs.length c zs ∧ (zs = [] ∨ ∃ b off, a = some ⟨b, off, none⟩ ∧ b < W.heap.size ∧ ¬ g = some b)
theorem El.bs {W : World} {g : Option Nat} {u : Value} {zs : List Int} (h : El W g u zs) : Bs W u zs := by
  obtain ⟨a, c, h1, h2, -⟩ := h
  exact ⟨a, c, h1, h2⟩
theorem El.move {W W' : World} {g g' : Option Nat} {u : Value} {zs : List Int} (h : El W g u zs) (hsz : W.heap.size ≤ W'.heap.size) (hb : ∀ b, b < W.heap.size → ¬ g = some b → W'.heap[b]? = W.heap[b]?)
    (hg : ∀ b, b < W.heap.size → ¬ g = some b → ¬ g' = some b) : El W' g' u zs := by
  obtain ⟨a, c, h1, ⟨⟨r1, r2, r3⟩, b2, b3, b4⟩, h3⟩ := h
  rcases h3 with rfl | ⟨b, off, rfl, hlt, hne⟩
  · exact ⟨a, c, h1, ⟨⟨r1, r2, .inl rfl⟩, b2, b3, b4⟩, .inl rfl⟩
  · refine ⟨_, c, h1, ⟨⟨r1, r2, ?_⟩, b2, b3, b4⟩, .inr ⟨b, off, rfl, by omega, hg b hlt hne⟩⟩
    rcases r3 with r3 | ⟨b', off', e, hlt', hc⟩
    · exact .inl r3
    · obtain ⟨rfl, rfl⟩ : b = b' ∧ off = off' := by
        simp only [Option.some.injEq, Addr.mk.injEq, and_true] at e
        exact e
      refine .inr ⟨b, off, rfl, by omega, fun i hi => ?_⟩
      have := hc i hi
      simp only [World.cell?, hb b hlt hne] at this ⊢
      exact this
theorem El.below {W W' : World} {g : Option Nat} {u : Value} {zs : List Int} (h : El W g u zs) (b : Below W.heap.size W W') : El W' g u zs :=
  h.move b.size (fun k hk _ => b.block k hk) (fun _ _ h => h)
theorem El.own {W : World} {M : Nat} {g : Option Nat} {u : Value} {zs : List Int} (h : Own W M u zs) (hg : ∀ k, g = some k → k < M) : El W g u zs := by
  obtain ⟨a, c, rfl, A⟩ := h.ba
  obtain ⟨hb, -, h | ⟨G, cap, cur, e, hM, hG, rest⟩⟩ := h
  · exact ⟨_, _, rfl, A, .inl (List.eq_nil_of_length_eq_zero h.2)⟩
  · simp only [Value.slice.injEq] at e
    obtain ⟨rfl, -, -⟩ := e
    refine ⟨_, _, rfl, A, .inr ⟨G, 0, rfl, (Array.getElem?_eq_some_iff.1 hG).1, fun h => ?_⟩⟩
    have := hg _ h
    omega
theorem El.nil (W : World) (g : Option Nat) : El W g (.slice none 0 0) [] := ⟨none, 0, rfl, ⟨⟨rfl, by simp, .inl rfl⟩, Nat.le_refl _, by decide, fun _ => rfl⟩, .inl rfl⟩
def LL (W : World) (N : Nat) (v : Value) (L : List (List Int)) : Prop :=
  ∃ vs : List Value, W.ownsRow N 28 1 v L.length vs ∧ ∀ i, i < L.length → El W v.ownBlock (vs.getD i undef) (L.getD i [])
theorem LL.nil (W : World) (N : Nat) : LL W N (.slice none 0 0) [] := ⟨[], World.ownsRow_nil W N 28 1, fun i hi => absurd hi (by simp)⟩
theorem LL.below {W W' : World} {N : Nat} {v : Value} {L : List (List Int)} (h : LL W N v L) (b : Below W.heap.size W W') : LL W' N v L := by
  obtain ⟨vs, ⟨hl, ho⟩, he⟩ := h
  refine ⟨vs, ⟨hl, ?_⟩, fun i hi => (he i hi).below b⟩
  rcases ho with h | ⟨g, cap, cur, rfl, hN, hg, rest⟩
  · exact .inl h
  · exact .inr ⟨g, cap, cur, rfl, hN, (b.block g (Array.getElem?_eq_some_iff.1 hg).1).trans hg, rest⟩
theorem LL.base {W : World} {N M : Nat} {v : Value} {L : List (List Int)} (h : LL W N v L) (hM : M ≤ N) : LL W M v L := by
  obtain ⟨vs, ⟨hl, ho⟩, he⟩ := h
  refine ⟨vs, ⟨hl, ?_⟩, he⟩
  rcases ho with h | ⟨g, cap, cur, rfl, hN, rest⟩
  · exact .inl h
  · exact .inr ⟨g, cap, cur, rfl, Nat.le_trans hM hN, rest⟩
theorem LL.lt {W : World} {N : Nat} {v : Value} {L : List (List Int)} (h : LL W N v L) {k : Nat} (hk : v.ownBlock = some k) : N ≤ k ∧ k < W.heap.size := by
  obtain ⟨vs, ho, -⟩ := h
  exact ho.lt k hk
theorem LL.lens {W : World} {N : Nat} {v : Value} {L : List (List Int)} (h : LL W N v L) : ∃ a cap, v = .slice a L.length cap ∧ (0 < L.length → ∃ g, a = some ⟨g, 0, none⟩ ∧ ∀ i, i < L.length → ∃ u, W.cell? ⟨g, i, none⟩ = some u ∧ Bs W u (L.getD i [])) := by
  obtain ⟨vs, ⟨hl, ho⟩, he⟩ := h
  rcases ho with ⟨rfl, h0⟩ | ⟨g, cap, cur, rfl, hN, hg, hn, hm, hs, ht⟩
  · exact ⟨none, 0, by rw [h0], fun h => by omega⟩
  · refine ⟨_, cap, rfl, fun _ => ⟨g, rfl, fun i hi => ⟨vs.getD i undef, ?_, (he i hi).bs⟩⟩⟩
    have hi2 : i < vs.length := by omega
    have e : vs[i]? = some (vs.getD i undef) := by simp [List.getD_eq_getElem?_getD, hi2]
    generalize vs.getD i undef = u at *
    rw [← ht, List.getElem?_take, if_pos (by omega)] at e
    simp only [World.cell?, hg]
    simpa using e
theorem wp_append_at {P : Program} (w : World) {o : Oper} {a : Act} {K : Act → World → Prop} {Q : Exit → Act → World → Prop} (s x : Operand) (t : TypeId)
    (ho : o.op = .call { callee := .builtin .append, args := #[s, x], argTypes := #[t, t] })
    (base : Nat) (e : TypeId) (i : TypeInfo) (z : Value) (size bytes : Nat) (ht : P.underlying t = some (.slice e)) (hi : P.info? e = some i) (hz : i.zero = some z)
    (hsize : i.size = size) (hby : i.bytes = bytes) (hzs : z.cells.size = size) (hsz : 0 < size)
    (v : Value) (n : Nat) (xs : List Value) (hs : a.eval s = v) (hown : w.ownsRow base e size v n xs)
    (ad : Addr) (m c : Nat) (news : List Value) (hx : a.eval x = .slice (some ad) m c) (hl : news.length = m * size) (hnews : ∀ j u, news[j]? = some u → w.cell? (ad.add j) = some u) (h1 : ∀ u ∈ news, u.oneCell' = true)
    (h63 : n + m ≤ maxLen) (hbytes : (n + m) * bytes ≤ 140737488355328) (hbase : base ≤ w.heap.size)
    (h : ∀ v' w', w'.ownsRow base e size v' (n + m) (xs ++ news) → w.grownBy w' v.ownBlock → (v' = .slice none 0 0 ↔ v = .slice none 0 0 ∧ m = 0) → (v'.ownBlock = v.ownBlock ∨ v'.ownBlock = some w.heap.size) → K (a.put o.dst v') w') :
    o.wp P a w K Q := by
  obtain ⟨v', w', hr, h2, h3, h4, h5⟩ := run_append_own_at (P := P) w base t o.type e i z size bytes ht hi hz hsize hby hzs hsz v n xs hown ad m c news hl hnews h1 h63 hbytes hbase
  unfold Oper.wp execOp
  simp only [ho, resolve, invoke, builtin, Sem.run_bind, Sem.run_pure, Result.andThen_ok, List.map_toArray, List.map_cons, List.map_nil, hs, hx, hr]
  exact h v' w' h2 h3 h4 h5
theorem append_llK {o : Oper} {a : Act} {w : World} {K : Act → World → Prop} {Q : Exit → Act → World → Prop} (s x : Operand)
    (ho : o.op = .call { callee := .builtin .append, args := #[s, x], argTypes := #[53, 53] })
    (N : Nat) (v : Value) (L1 L2 : List (List Int)) (hs : a.eval s = v) (h : LL w N v L1) (hN : N ≤ w.heap.size)
    (g m : Nat) (vs2 : List Value) (hx : a.eval x = .slice (some ⟨g, 0, none⟩) m m) (hm : L2.length = m) (S : Ls w g vs2 L2) (hap : ∀ i, i < L2.length → El w v.ownBlock (vs2.getD i undef) (L2.getD i [])) (hl : L1.length + L2.length ≤ 100)
    (k : ∀ v' w', LL w' N v' (L1 ++ L2) → Below N w w' → K (a.put o.dst v') w') : o.wp Tryd.prog a w K Q := by
  obtain ⟨i, hi, hz, hsz, hby⟩ := info_sl
  obtain ⟨vs, hown, hel⟩ := h
  have hrow : ∀ k, v.ownBlock = some k → N ≤ k := fun k hk => (hown.lt k hk).1
  subst hm
  have hl1 : vs.length = L1.length := by have := hown.1; omega
  refine wp_append_at w s x 53 ho N 28 i _ 1 24 Tryd.underlying53 hi hz hsz hby rfl (by decide) v L1.length vs hs hown ⟨g, 0, none⟩ L2.length L2.length vs2 hx (by rw [S.len]; omega) (fun j u hj => ?_) (fun u hu => ?_) (by simp only [maxLen]; omega) (by omega) hN (fun v' w' h1 h2 _ h4 => k v' w' ⟨vs ++ vs2, ?_, fun j hj => ?_⟩ (grown_below h2 hN hrow))
  · have e : (⟨g, 0, none⟩ : Addr).add j = ⟨g, j, none⟩ := by unfold Addr.add; split <;> simp_all
    rw [e]
    refine S.blk.cell ?_
    simpa using hj
  · obtain ⟨j, hj, rfl⟩ := List.getElem_of_mem hu
    have hj2 : j < L2.length := by rw [← S.len]; exact hj
    obtain ⟨a', c', e, -⟩ := S.at' j hj2
    rw [show vs2.getD j undef = vs2[j] by simp [List.getD_eq_getElem?_getD, hj]] at e
    rw [e]; rfl
  · rw [List.length_append]; exact h1
  · have hold : ∀ u zs, El w v.ownBlock u zs → El w' v'.ownBlock u zs := fun u zs he => he.move h2.size (fun b hb hne => h2.block b hb (fun e => hne e.symm)) (fun b hb hne he => by
      rcases h4 with h4 | h4
      · rw [h4] at he; exact hne he
      · rw [h4] at he; have := Option.some.inj he; omega)
    by_cases hj1 : j < L1.length
    · have e1 : (vs ++ vs2).getD j undef = vs.getD j undef := by simp only [List.getD_eq_getElem?_getD]; rw [List.getElem?_append_left (by omega)]
      have e2 : (L1 ++ L2).getD j [] = L1.getD j [] := by simp only [List.getD_eq_getElem?_getD]; rw [List.getElem?_append_left hj1]
      rw [e1, e2]
      exact hold _ _ (hel j hj1)
    · have e1 : (vs ++ vs2).getD j undef = vs2.getD (j - L1.length) undef := by simp only [List.getD_eq_getElem?_getD]; rw [List.getElem?_append_right (by omega), hl1]
      have e2 : (L1 ++ L2).getD j [] = L2.getD (j - L1.length) [] := by simp only [List.getD_eq_getElem?_getD]; rw [List.getElem?_append_right (by omega)]
      rw [e1, e2]
      rw [List.length_append] at hj
      exact hold _ _ (hap _ (by omega))
theorem append_ll {ops : Array Oper} {rest : List Oper} {o : Oper} {a : Act} {w : World} {Q : Exit → Act → World → Prop} (hgd : o.guard = none) (s x : Operand)
    (ho : o.op = .call { callee := .builtin .append, args := #[s, x], argTypes := #[53, 53] })
    (N : Nat) (v : Value) (L1 L2 : List (List Int)) (hs : a.eval s = v) (h : LL w N v L1) (hN : N ≤ w.heap.size)
    (g m : Nat) (vs2 : List Value) (hx : a.eval x = .slice (some ⟨g, 0, none⟩) m m) (hm : L2.length = m) (S : Ls w g vs2 L2) (hap : ∀ i, i < L2.length → El w v.ownBlock (vs2.getD i undef) (L2.getD i [])) (hl : L1.length + L2.length ≤ 100)
    (k : ∀ v' w', LL w' N v' (L1 ++ L2) → Below N w w' → wpList Tryd.prog ops Q rest (a.put o.dst v') w') : wpList Tryd.prog ops Q (o :: rest) a w :=
  wpList_plain hgd fun _ hK => append_llK s x ho N v L1 L2 hs h hN g m vs2 hx hm S hap hl (fun v' w' h b => hK _ _ (k v' w' h b))
theorem append_byteK {o : Oper} {a : Act} {w : World} {K : Act → World → Prop} {Q : Exit → Act → World → Prop} (s x : Operand)
    (ho : o.op = .call { callee := .builtin .append, args := #[s, x], argTypes := #[28, 28] })
    (N : Nat) (v : Value) (xs : List Int) (hs : a.eval s = v) (h : Own w N v xs) (hN : N ≤ w.heap.size) (z : Int) (hz : 0 ≤ z ∧ z ≤ 255)
    (hx : a.eval x = .slice (some ⟨w.heap.size, 0, none⟩) 1 1) (hl : xs.length ≤ 100)
    (k : ∀ v' w', Own w' N v' (xs ++ [z]) → Below N w w' → K (a.put o.dst v') w') : o.wp Tryd.prog a (w.alloc (.cells #[.int .u8 z] 5)) K Q := by
  obtain ⟨i, hi, hzz, hsz, hby⟩ := info_u8
  have kk := (Below.refl w.heap.size w).alloc (Nat.le_refl _) (.cells #[.int .u8 z] 5)
  have h2 := h.below kk
  have hrow : ∀ k, v.ownBlock = some k → N ≤ k := fun k hk => (h.row.lt k hk).1
  have kB := Blk.new w 5 #[.int .u8 z]
  refine wp_append_at _ s x 28 ho N 5 i (.int .u8 0) 1 1 Tryd.underlying28 hi hzz hsz hby rfl (by decide) v xs.length (xs.map (Value.int .u8)) hs h2.row ⟨w.heap.size, 0, none⟩ 1 1 [.int .u8 z] hx rfl (fun j u hj => ?_) (by simp [Value.oneCell']) (by simp only [maxLen]; omega) (by omega) (Nat.le_trans hN kk.size) (fun v' w' h1 h3 _ _ => k v' w' ⟨fun y hy => ?_, ?_⟩ ((kk.mono hN).trans (grown_below h3 (Nat.le_trans hN kk.size) hrow)))
  · match j, hj with
    | 0, hj =>
      obtain rfl : Value.int .u8 z = u := by simpa using hj
      have e : (⟨w.heap.size, 0, none⟩ : Addr).add 0 = ⟨w.heap.size, 0, none⟩ := by unfold Addr.add; split <;> simp_all
      rw [e]
      exact kB.cell rfl
    | (j + 1), hj => exact absurd hj (by simp)
  · rcases List.mem_append.1 hy with h4 | h4
    · exact h.bd y h4
    · obtain rfl := List.mem_singleton.1 h4; exact hz
  · rw [List.length_append, List.map_append]; exact h1
theorem append_byte {ops : Array Oper} {rest : List Oper} {o : Oper} {a : Act} {w : World} {Q : Exit → Act → World → Prop} (hgd : o.guard = none) (s x : Operand)
    (ho : o.op = .call { callee := .builtin .append, args := #[s, x], argTypes := #[28, 28] })
    (N : Nat) (v : Value) (xs : List Int) (hs : a.eval s = v) (h : Own w N v xs) (hN : N ≤ w.heap.size) (z : Int) (hz : 0 ≤ z ∧ z ≤ 255)
    (hx : a.eval x = .slice (some ⟨w.heap.size, 0, none⟩) 1 1) (hl : xs.length ≤ 100)
    (k : ∀ v' w', Own w' N v' (xs ++ [z]) → Below N w w' → wpList Tryd.prog ops Q rest (a.put o.dst v') w') : wpList Tryd.prog ops Q (o :: rest) a (w.alloc (.cells #[.int .u8 z] 5)) :=
  wpList_plain hgd fun _ hK => append_byteK s x ho N v xs hs h hN z hz hx hl (fun v' w' h b => hK _ _ (k v' w' h b))
end Go.Proofs.YtcgleggdochbeaaDoor
