import Derived.Test.YtcgleggdochbeaaDoorS03
namespace Go.Proofs.YtcgleggdochbeaaDoor
open Go.RowKit
set_option linter.unusedVariables false
set_option linter.unusedSimpArgs false
set_option linter.unusedSectionVars false
def scN (s : Int) : Int := if s = 2 then 1 else if s = 4 then 2 else if s = 8 then 3 else 0
def fitI (v : Int) : Bool := sx (v % 256) == v
def wayT (o : On) (n md : Int) (sib : Bool) : Option (List Int) :=
 if o.b < 0 ∧ ¬ md = 0 then none
 else if 0 ≤ o.b ∧ ((md = 0 ∧ (o.b = 5 ∨ ¬ o.m = 0)) ∨ (md = 1 ∧ fitI o.m = false)) then none
 else if sib = false ∧ (0 ≤ o.x ∨ o.b = 4) then none
 else some ((if sib then [64 * md + 8 * n + 4, 64 * scN o.s + 8 * (if 0 ≤ o.x then o.x else 4) + (if o.b < 0 then 5 else o.b)] else [64 * md + 8 * n + (if o.b < 0 then 5 else o.b)])
  ++ (if md = 2 ∨ o.b < 0 then wB o.m else if md = 1 then [o.m % 256] else []))
def modT (o : On) (n : Int) : List (List Int) :=
 if o.k = 1 then [[192 + 8 * n + o.r]] else [wayT o n 0 false, wayT o n 1 false, wayT o n 2 false, wayT o n 0 true, wayT o n 1 true, wayT o n 2 true].filterMap id
theorem getD_mid (pre t suf : List Int) {j : Nat} (h : j < t.length) : (pre ++ t ++ suf).getD (pre.length + j) 0 = t.getD j 0 := by
 simp only [List.getD_eq_getElem?_getD]
 rw [List.append_assoc, List.getElem?_append_right (by omega), show pre.length + j - pre.length = j by omega, List.getElem?_append_left h]
theorem le4_mid (pre t suf : List Int) {j : Nat} (h : j + 4 ≤ t.length) : le4 (pre ++ t ++ suf) (pre.length + j) = le4 t j := by
 unfold le4
 rw [Nat.add_assoc, Nat.add_assoc, Nat.add_assoc, getD_mid _ _ _ (by omega), getD_mid _ _ _ (by omega), getD_mid _ _ _ (by omega), getD_mid _ _ _ (by omega)]
theorem scN_ok {s : Int} (h : s = 1 ∨ s = 2 ∨ s = 4 ∨ s = 8) : 0 ≤ scN s ∧ scN s < 4 ∧ (2 : Int) ^ (scN s).toNat = s := by
 rcases h with rfl | rfl | rfl | rfl <;> decide
theorem fit_sx {v : Int} (h : fitI v = true) : sx (v % 256) = v := by unfold fitI at h; simpa using h
theorem len_mid (pre t suf : List Int) : (pre ++ t ++ suf).length = pre.length + t.length + suf.length := by simp; omega
theorem dist_mid (pre t suf : List Int) (j : Nat) (o : On) (md base x s : Int) (hmd : md = 0 ∨ md = 1 ∨ md = 2) (hb : o = onMem o.m (if base = 5 ∧ md = 0 then -1 else base) x s) (hbase : 0 ≤ base)
  (h1 : md = 1 → j + 1 = t.length ∧ sx (t.getD j 0) = o.m) (h2 : md = 2 → j + 4 = t.length ∧ le4 t j = o.m) (h3 : md = 0 → base = 5 → j + 4 = t.length ∧ le4 t j = o.m) (h4 : md = 0 → ¬ base = 5 → j = t.length ∧ o.m = 0) :
  distM (pre ++ t ++ suf) (pre.length + j) md base x s = some (o, pre.length + t.length) := by
 have hl := len_mid pre t suf
 unfold distM
 rcases hmd with rfl | rfl | rfl
 ·rw [if_neg (by decide), if_neg (by decide)]
  by_cases h5 : base = 5
  ·have h := h3 rfl h5
   rw [if_pos h5, if_pos (by omega), le4_mid _ _ _ (by omega), h.2]
   rw [if_pos ⟨h5, rfl⟩] at hb
   rw [← hb, show pre.length + j + 4 = pre.length + t.length by omega]
  ·have h := h4 rfl h5
   rw [if_neg h5]
   rw [if_neg (fun e => h5 e.1), h.2] at hb
   rw [← hb, h.1]
 ·have h := h1 rfl
  rw [if_pos rfl, if_pos (by omega), getD_mid _ _ _ (by omega), h.2]
  rw [if_neg (by omega)] at hb
  rw [← hb, show pre.length + j + 1 = pre.length + t.length by omega]
 ·have h := h2 rfl
  rw [if_neg (by decide), if_pos rfl, if_pos (by omega), le4_mid _ _ _ (by omega), h.2]
  rw [if_neg (by omega)] at hb
  rw [← hb, show pre.length + j + 4 = pre.length + t.length by omega]
structure Reads (o : On) (n : Int) (t : List Int) : Prop where
 bd : ∀ z ∈ t, 0 ≤ z ∧ z ≤ 255
 len : 1 ≤ t.length ∧ t.length ≤ 6
 field : t.getD 0 0 / 8 % 8 = n
 place : ∀ pre suf : List Int, placeM (pre ++ t ++ suf) (pre.length + 1) (t.getD 0 0) = some (o, pre.length + t.length)
theorem reads_reg {n r : Int} (hn : 0 ≤ n ∧ n < 8) (hr : 0 ≤ r ∧ r < 8) : Reads (onReg r) n [192 + 8 * n + r] := by
 refine ⟨?_, by simp, ?_, fun pre suf => ?_⟩
 ·intro z hz; simp at hz; omega
 ·simp; omega
 ·unfold placeM
  simp only [List.getD_cons_zero, List.length_singleton]
  rw [if_pos (by omega), show (192 + 8 * n + r) % 8 = r by omega]
theorem mem_of8 {b x s : Int} (h : memA b x s = 8) : (-1 ≤ b ∧ b < 8) ∧ ((x = -1 ∧ s = 1) ∨ (0 ≤ x ∧ x < 8 ∧ x ≠ 4 ∧ (s = 1 ∨ s = 2 ∨ s = 4 ∨ s = 8))) := by
 unfold memA at h
 cases h1 : (b == -1 || isRegB b)
 ·rw [h1] at h; simp at h
 ·cases h2 : isIndexB x s
  ·rw [h2] at h; simp at h
  ·clear h
   have g1 : -1 ≤ b ∧ b < 8 := by simp [isRegB] at h1; omega
   refine ⟨g1, ?_⟩
   unfold isIndexB at h2
   by_cases hx : x = -1
   ·subst hx
    simp at h2
    exact .inl ⟨rfl, h2⟩
   ·rw [show (x == -1) = false by simp [hx]] at h2
    simp [isRegB, isScaleB] at h2
    exact .inr ⟨h2.1.1.1, h2.1.1.2, h2.1.2, by omega⟩
def baseN (b : Int) : Int := if b < 0 then 5 else b
def distB (m b md : Int) : List Int := if md = 2 ∨ b < 0 then wB m else if md = 1 then [m % 256] else []
theorem dist_facts {m b md : Int} (head : List Int) (hm : 0 ≤ m ∧ m ≤ 4294967295) (hmd : md = 0 ∨ md = 1 ∨ md = 2) (c1 : ¬ (b < 0 ∧ ¬ md = 0)) (c2 : ¬ (0 ≤ b ∧ ((md = 0 ∧ (b = 5 ∨ ¬ m = 0)) ∨ (md = 1 ∧ fitI m = false)))) :
  (md = 1 → head.length + 1 = (head ++ distB m b md).length ∧ sx ((head ++ distB m b md).getD head.length 0) = m)
  ∧ (md = 2 → head.length + 4 = (head ++ distB m b md).length ∧ le4 (head ++ distB m b md) head.length = m)
  ∧ (md = 0 → baseN b = 5 → head.length + 4 = (head ++ distB m b md).length ∧ le4 (head ++ distB m b md) head.length = m)
  ∧ (md = 0 → ¬ baseN b = 5 → head.length = (head ++ distB m b md).length ∧ m = 0)
  ∧ (∀ z ∈ distB m b md, 0 ≤ z ∧ z ≤ 255) ∧ (distB m b md).length ≤ 4 := by
 have hw : le4 (head ++ wB m) head.length = m := by have := le4_wB head [] m hm; simpa using this
 have hbd := wB_bd m hm
 by_cases hb : b < 0
 ·have h0 : md = 0 := by omega
  have hD : distB m b md = wB m := if_pos (.inr hb)
  rw [hD]
  refine ⟨fun h => by omega, fun h => by omega, fun _ _ => ⟨by simp [wB], hw⟩, fun _ h => absurd (if_pos hb) h, hbd, by simp [wB]⟩
 ·have hbase : baseN b = b := if_neg hb
  rcases hmd with rfl | rfl | rfl
  ·have hD : distB m b 0 = [] := by unfold distB; rw [if_neg (by omega), if_neg (by decide)]
   have h5 : ¬ b = 5 ∧ m = 0 := by omega
   rw [hD, hbase]
   exact ⟨fun h => absurd h (by decide), fun h => absurd h (by decide), fun _ h => absurd h h5.1, fun _ _ => ⟨by simp, h5.2⟩, by simp, by simp⟩
  ·have hD : distB m b 1 = [m % 256] := by unfold distB; rw [if_neg (by omega), if_pos rfl]
   have hf : fitI m = true := by
    cases h : fitI m
    ·exact absurd ⟨by omega, .inr ⟨rfl, h⟩⟩ c2
    ·rfl
   rw [hD]
   refine ⟨fun _ => ⟨by simp, ?_⟩, fun h => absurd h (by decide), fun h => absurd h (by decide), fun h => absurd h (by decide), ?_, by simp⟩
   ·rw [show (head ++ [m % 256]).getD head.length 0 = m % 256 by simp [List.getD_eq_getElem?_getD]]
    exact fit_sx hf
   ·intro z hz; simp at hz; omega
  ·have hD : distB m b 2 = wB m := if_pos (.inl rfl)
   rw [hD]
   exact ⟨fun h => absurd h (by decide), fun _ => ⟨by simp [wB], hw⟩, fun h => absurd h (by decide), fun h => absurd h (by decide), hbd, by simp [wB]⟩
theorem onMem_base {m b x s md : Int} (hb : -1 ≤ b ∧ b < 8) (c1 : ¬ (b < 0 ∧ ¬ md = 0)) (c2 : ¬ (0 ≤ b ∧ ((md = 0 ∧ (b = 5 ∨ ¬ m = 0)) ∨ (md = 1 ∧ fitI m = false)))) : onMem m b x s = onMem (onMem m b x s).m (if baseN b = 5 ∧ md = 0 then -1 else baseN b) x s := by
 have : (if baseN b = 5 ∧ md = 0 then (-1 : Int) else baseN b) = b := by
  unfold baseN
  by_cases h : b < 0
  ·rw [if_pos h, if_pos ⟨rfl, by omega⟩]; omega
  ·rw [if_neg h, if_neg (by omega)]
 rw [this]; rfl
theorem bd_app {xs ys : List Int} (hx : ∀ z ∈ xs, 0 ≤ z ∧ z ≤ 255) (hy : ∀ z ∈ ys, 0 ≤ z ∧ z ≤ 255) : ∀ z ∈ xs ++ ys, 0 ≤ z ∧ z ≤ 255 := fun z hz => (List.mem_append.1 hz).elim (hx z) (hy z)
theorem reads_nosib {m b n md m0 : Int} (hm0 : 0 ≤ m0 ∧ m0 ≤ 255) (e1 : m0 / 64 % 4 = md) (e2 : m0 % 8 = baseN b) (e4 : ¬ baseN b = 4) (e3 : m0 / 8 % 8 = n) (hb : -1 ≤ b ∧ b < 8) (hm : 0 ≤ m ∧ m ≤ 4294967295) (hmd : md = 0 ∨ md = 1 ∨ md = 2)
  (c1 : ¬ (b < 0 ∧ ¬ md = 0)) (c2 : ¬ (0 ≤ b ∧ ((md = 0 ∧ (b = 5 ∨ ¬ m = 0)) ∨ (md = 1 ∧ fitI m = false)))) : Reads (onMem m b (-1) 1) n ([m0] ++ distB m b md) := by
 have hB : 0 ≤ baseN b ∧ baseN b < 8 := by unfold baseN; split <;> omega
 have hO := onMem_base (x := -1) (s := 1) hb c1 c2
 obtain ⟨f1, f2, f3, f4, f5, f6⟩ := dist_facts [m0] hm hmd c1 c2
 refine ⟨bd_app (by intro z hz; simp at hz; omega) f5, ⟨by simp, by simp; omega⟩, by rw [show ([m0] ++ distB m b md).getD 0 0 = m0 from rfl]; exact e3, fun pre suf => ?_⟩
 rw [show ([m0] ++ distB m b md).getD 0 0 = m0 from rfl]
 unfold placeM
 rw [e1, e2, if_neg (by omega), if_neg e4]
 exact dist_mid pre _ suf 1 _ md (baseN b) (-1) 1 hmd hO hB.1 f1 f2 f3 f4
theorem reads_sib {m b x s n md m0 y : Int} (hm0 : 0 ≤ m0 ∧ m0 ≤ 255) (hy : 0 ≤ y ∧ y ≤ 255) (e1 : m0 / 64 % 4 = md) (e2 : m0 % 8 = 4) (e3 : m0 / 8 % 8 = n) (y1 : y % 8 = baseN b)
  (y2 : (y / 8 % 8 = 4 ∧ x = -1 ∧ s = 1) ∨ (y / 8 % 8 = x ∧ ¬ x = 4 ∧ (2 : Int) ^ (y / 64 % 4).toNat = s)) (hb : -1 ≤ b ∧ b < 8) (hm : 0 ≤ m ∧ m ≤ 4294967295) (hmd : md = 0 ∨ md = 1 ∨ md = 2)
  (c1 : ¬ (b < 0 ∧ ¬ md = 0)) (c2 : ¬ (0 ≤ b ∧ ((md = 0 ∧ (b = 5 ∨ ¬ m = 0)) ∨ (md = 1 ∧ fitI m = false)))) : Reads (onMem m b x s) n ([m0, y] ++ distB m b md) := by
 have hB : 0 ≤ baseN b ∧ baseN b < 8 := by unfold baseN; split <;> omega
 have hO := onMem_base (x := x) (s := s) hb c1 c2
 obtain ⟨f1, f2, f3, f4, f5, f6⟩ := dist_facts [m0, y] hm hmd c1 c2
 refine ⟨bd_app (by intro z hz; simp at hz; omega) f5, ⟨by simp, by simp; omega⟩, by rw [show ([m0, y] ++ distB m b md).getD 0 0 = m0 from rfl]; exact e3, fun pre suf => ?_⟩
 have hlen := len_mid pre ([m0, y] ++ distB m b md) suf
 have h2 : 2 ≤ ([m0, y] ++ distB m b md).length := by simp
 rw [show ([m0, y] ++ distB m b md).getD 0 0 = m0 from rfl]
 unfold placeM
 rw [e1, if_neg (by omega), if_pos e2, if_pos (by omega), getD_mid pre _ suf (by omega), show ([m0, y] ++ distB m b md).getD 1 0 = y from rfl, y1]
 rcases y2 with ⟨g1, rfl, rfl⟩ | ⟨g1, g2, g3⟩
 ·rw [if_pos g1]
  exact dist_mid pre _ suf 2 _ md (baseN b) (-1) 1 hmd hO hB.1 f1 f2 f3 f4
 ·rw [g1, if_neg g2, g3]
  exact dist_mid pre _ suf 2 _ md (baseN b) x s hmd hO hB.1 f1 f2 f3 f4
theorem reads_way {m b x s n md : Int} {sib : Bool} {t : List Int} (hn : 0 ≤ n ∧ n < 8) (hb : -1 ≤ b ∧ b < 8) (hx : (x = -1 ∧ s = 1) ∨ (0 ≤ x ∧ x < 8 ∧ x ≠ 4 ∧ (s = 1 ∨ s = 2 ∨ s = 4 ∨ s = 8))) (hm : 0 ≤ m ∧ m ≤ 4294967295) (hmd : md = 0 ∨ md = 1 ∨ md = 2)
  (h : wayT (onMem m b x s) n md sib = some t) : Reads (onMem m b x s) n t := by
 have hB : 0 ≤ baseN b ∧ baseN b < 8 := by unfold baseN; split <;> omega
 unfold wayT at h
 split at h
 ·cases h
 rename_i c1
 split at h
 ·cases h
 rename_i c2
 split at h
 ·cases h
 rename_i c3
 have c3 : ¬ (sib = false ∧ (0 ≤ x ∨ b = 4)) := c3
 cases sib
 ·have hx1 : x = -1 ∧ s = 1 := by
   rcases hx with hx | hx
   ·exact hx
   ·exact absurd ⟨rfl, .inl hx.1⟩ c3
  obtain ⟨rfl, rfl⟩ := hx1
  have hb4 : ¬ baseN b = 4 := by
   unfold baseN
   split
   ·decide
   ·exact fun e => c3 ⟨rfl, .inr e⟩
  have e : [64 * md + 8 * n + baseN b] ++ distB m b md = t := Option.some.inj h
  rw [← e]
  exact reads_nosib (by omega) (by omega) (by omega) hb4 (by omega) hb hm hmd c1 c2
 ·have e : [64 * md + 8 * n + 4, 64 * scN s + 8 * (if 0 ≤ x then x else 4) + baseN b] ++ distB m b md = t := Option.some.inj h
  rw [← e]
  have hs := scN_ok (s := s) (by omega)
  generalize scN s = sc at *
  by_cases h0 : 0 ≤ x
  ·rw [if_pos h0]
   exact reads_sib (by omega) (by omega) (by omega) (by omega) (by omega) (by omega) (.inr ⟨by omega, by omega, by rw [show (64 * sc + 8 * x + baseN b) / 64 % 4 = sc by omega]; exact hs.2.2⟩) hb hm hmd c1 c2
  ·rw [if_neg h0]
   exact reads_sib (by omega) (by omega) (by omega) (by omega) (by omega) (by omega) (.inl ⟨by omega, by omega, by omega⟩) hb hm hmd c1 c2
def RMb (o : On) : Prop := RM o ∧ 0 ≤ o.m ∧ o.m ≤ 4294967295
theorem reads_mod {o : On} {n : Int} {t : List Int} (hn : 0 ≤ n ∧ n < 8) (ho : RMb o) (h : t ∈ modT o n) : Reads o n t := by
 obtain ⟨hR, hm⟩ := ho
 rcases hR with ⟨r, h1, h2, rfl⟩ | ⟨m, b, x, s, rfl, h8⟩
 ·unfold modT at h
  rw [if_pos (show (onReg r).k = 1 from rfl)] at h
  simp only [List.mem_cons, List.not_mem_nil, or_false] at h
  subst h
  exact reads_reg hn ⟨h1, h2⟩
 ·have hM := mem_of8 h8
  unfold modT at h
  rw [if_neg (by simp [onMem])] at h
  obtain ⟨a, ha, e⟩ := List.mem_filterMap.1 h
  simp only [List.mem_cons, List.not_mem_nil, or_false] at ha
  have e : a = some t := e
  subst e
  rcases ha with e | e | e | e | e | e
  ·exact reads_way hn hM.1 hM.2 hm (.inl rfl) e.symm
  ·exact reads_way hn hM.1 hM.2 hm (.inr (.inl rfl)) e.symm
  ·exact reads_way hn hM.1 hM.2 hm (.inr (.inr rfl)) e.symm
  ·exact reads_way hn hM.1 hM.2 hm (.inl rfl) e.symm
  ·exact reads_way hn hM.1 hM.2 hm (.inr (.inl rfl)) e.symm
  ·exact reads_way hn hM.1 hM.2 hm (.inr (.inr rfl)) e.symm
end Go.Proofs.YtcgleggdochbeaaDoor
