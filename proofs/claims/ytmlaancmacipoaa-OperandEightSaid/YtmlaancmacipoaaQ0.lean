/- Both memories in one world. -/
import Derived.Test.YtmlaancmacipoaaR4
import Derived.Test.YtmlaancmacipoaaR6
import Derived.Test.YtmlaancmacipoaaR7
import Derived.Test.YtmlaancmacipoaaK0
import Derived.Deep.RegionHeld3
namespace Go.Proofs.Ytmlaancmacipoaa
open Go.RowKit
set_option linter.unusedVariables false
set_option linter.unusedSimpArgs false
set_option linter.unusedSectionVars false

structure Bp (n0 : Nat) (w0 w : World) (B R : Nat) (m t : Mm) : Prop where
  h : PAt w B m
  r : RAt w R t
  ok : m.ok
  ok2 : t.ok
  k : But [B, R] n0 w0 w
  ne : B ≠ R
  sz : n0 ≤ w.heap.size
section
variable {n0 : Nat} {w0 w : World} {B R : Nat} {m t : Mm}
theorem Bp.page {w' : World} {m' : Mm} (b : Bp n0 w0 w B R m t) (h : PAt w' B m') (ok : m'.ok) (k : But [B] w.heap.size w w') : Bp n0 w0 w' B R m' t :=
  ⟨h, b.r.but k b.r.lt (by simpa using Ne.symm b.ne), ok, b.ok2, b.k.trans (k.mono b.sz (by simp)), b.ne, Nat.le_trans b.sz k.size⟩
theorem Bp.ref {w' : World} {t' : Mm} (b : Bp n0 w0 w B R m t) (h : RAt w' R t') (ok : t'.ok) (k : But [R] w.heap.size w w') : Bp n0 w0 w' B R m t' :=
  ⟨b.h.but k b.h.lt (by simpa using b.ne), h, b.ok, ok, b.k.trans (k.mono b.sz (by simp)), b.ne, Nat.le_trans b.sz k.size⟩
theorem Bp.below {w' : World} (b : Bp n0 w0 w B R m t) (k : Below w.heap.size w w') : Bp n0 w0 w' B R m t := b.page (b.h.below k b.h.lt) b.ok (But.of k _)
theorem Bp.drew (b : Bp n0 w0 w B R m t) : Bp n0 w0 w.drew B R m t := ⟨b.h.drew, ⟨b.r.blk⟩, b.ok, b.ok2, b.k.drew, b.ne, b.sz⟩
theorem Bp.drewN (b : Bp n0 w0 w B R m t) (n : Nat) : Bp n0 w0 (w.drewN n) B R m t := ⟨⟨b.h.blk⟩, ⟨b.r.blk⟩, b.ok, b.ok2, ⟨b.k.os, b.k.tape, b.k.output, b.k.size, b.k.block⟩, b.ne, b.sz⟩
theorem Bp.done (b : Bp n0 w0 w B R m t) (lb : n0 ≤ B) (lr : n0 ≤ R) : Below n0 w0 w := b.k.below (Nat.le_refl _) (by simp [lb, lr])
theorem Bp.up (b : Bp n0 w0 w B R m t) {x : Nat} (hx : x < n0) (h1 : x ≠ B) (h2 : x ≠ R) : w.heap[x]? = w0.heap[x]? := b.k.block x hx (by simp [h1, h2])
theorem Bp.cell (b : Bp n0 w0 w B R m t) {x i : Nat} {v : Value} (hx : x < n0) (h1 : x ≠ B) (h2 : x ≠ R) (h : w0.cell? ⟨x, i, none⟩ = some v) : w.cell? ⟨x, i, none⟩ = some v := by
  have := b.up hx h1 h2
  simp only [World.cell?, this] at h ⊢; exact h
theorem bMap (b : Bp n0 w0 w B R m t) (p n v : Int) (hp : I64 p) : Calls Try.prog 18 #[mp B, .int .i64 p, .int .i64 n, .int .i64 v] w fun e w' => e = .returned (.int .i64 (errM (mapE m p n v))) ∧ Bp n0 w0 w' B R (mapS m p n v) t :=
  (Map_any b.h p n v hp).mono fun e w' h => ⟨h.1, b.page h.2.1 (mapS_ok b.ok _ _ _) h.2.2⟩
theorem bMapR (b : Bp n0 w0 w B R m t) (p n v : Int) (hp : I64 p) : Calls Try.prog 43 #[mp R, .int .i64 p, .int .i64 n, .int .i64 v] w fun e w' => e = .returned (.int .i64 (errM (mapE t p n v))) ∧ Bp n0 w0 w' B R m (mapS t p n v) :=
  (rMap b.r b.ok2 p n v hp).mono fun e w' h => ⟨h.1, b.ref h.2.1 (mapS_ok b.ok2 _ _ _) h.2.2⟩
theorem bWrite (b : Bp n0 w0 w B R m t) (a n v : Int) (ha : U32 a) (hv : U32 v) : Calls Try.prog 46 #[mp B, .int .u32 a, .int .i64 n, .int .u32 v] w fun e w' => e = .returned (.tuple #[fltOf (lackL m a 2 (numL n)) a 2, .bool (lackL m a 2 (numL n)).isNone]) ∧ Bp n0 w0 w' B R (wroteM m a n v) t ∧ But [B] w.heap.size w w' :=
  (Write_any b.h b.ok a ha n v hv).mono fun e w' h => ⟨h.1, b.page h.2.1 (wroteM_ok b.ok _ ha _ _) h.2.2, h.2.2⟩
theorem bRead (b : Bp n0 w0 w B R m t) (a n r : Int) (ha : U32 a) : Calls Try.prog 49 #[mp B, .int .u32 a, .int .i64 n, .int .i64 r] w fun e w' => e = .returned (.tuple #[.int .u32 (readM m a n r), fltOf (lackL m a (singleL r) (numL n)) a (singleL r), .bool (lackL m a (singleL r) (numL n)).isNone]) ∧ Bp n0 w0 w' B R m t ∧ Below w.heap.size w w' :=
  (Read_any b.h b.ok a ha n r).mono fun e w' h => ⟨h.1, b.below h.2, h.2⟩
theorem Row8.but {S : List Nat} {n : Nat} {w' : World} {x : Option Addr} {len : Nat} {zs : List Int} (h : Row8 w x len zs) (k : But S n w w') (hn : w.heap.size ≤ n) (hS : 0 < len → ∀ b off, x = some ⟨b, off, none⟩ → b ∉ S) : Row8 w' x len zs := by
  obtain ⟨h1, h2, h3⟩ := h
  refine ⟨h1, h2, ?_⟩
  rcases h3 with h3 | ⟨b, off, rfl, hlt, hc⟩
  · exact .inl h3
  · refine .inr ⟨b, off, rfl, Nat.lt_of_lt_of_le hlt k.size, fun i hi => ?_⟩
    have hb := k.block b (by omega) (hS (by omega) b off rfl)
    have := hc i hi
    simp only [World.cell?, hb] at this ⊢; exact this
theorem SpansAt.but {S : List Nat} {n : Nat} {w' : World} {x : Option Addr} {len : Nat} {L : List Sp} (h : SpansAt w x len L) (k : But S n w w') (hn : w.heap.size ≤ n) (hS : 0 < len → ∀ b off, x = some ⟨b, off, none⟩ → b ∉ S) : SpansAt w' x len L := by
  obtain ⟨h1, h2, h3⟩ := h
  refine ⟨h1, h2, ?_⟩
  rcases h3 with h3 | ⟨b, off, rfl, hlt, hc⟩
  · exact .inl h3
  · refine .inr ⟨b, off, rfl, Nat.lt_of_lt_of_le hlt k.size, fun i y hy => ?_⟩
    have hb := k.block b (by omega) (hS (by have := (List.getElem?_eq_some_iff.1 hy).1; omega) b off rfl)
    have := hc i y hy
    simp only [World.cell?, hb] at this ⊢; exact this
/-- A row of bytes, spans, that neither memory holds. -/
def RowX (n0 : Nat) (w0 : World) (B R : Nat) (x : Option Addr) (len : Nat) (zs : List Int) : Prop := Row8 w0 x len zs ∧ w0.heap.size ≤ n0 ∧ (0 < len → ∀ b off, x = some ⟨b, off, none⟩ → b ≠ B ∧ b ≠ R) ∧ len ≤ 9223372036854775807
def SpanX (n0 : Nat) (w0 : World) (B R : Nat) (x : Option Addr) (len : Nat) (L : List Sp) : Prop := SpansAt w0 x len L ∧ w0.heap.size ≤ n0 ∧ (0 < len → ∀ b off, x = some ⟨b, off, none⟩ → b ≠ B ∧ b ≠ R) ∧ len ≤ 9223372036854775807
theorem load_ok {m : Mm} (ok : m.ok) (L : List Sp) : ((loadL L Mm.new).getD m).ok := by
  cases hl : loadL L Mm.new with
  | none => exact ok
  | some m' => exact loadL_ok L new_okM hl
theorem bLoad (b : Bp n0 w0 w B R m t) (x : Option Addr) (len cap : Nat) (L : List Sp) (hr : SpanX n0 w0 B R x len L) : Calls Try.prog 21 #[mp B, .slice x len cap] w fun e w' => e = .returned (.int .i64 (imgE (loadL L Mm.new))) ∧ Bp n0 w0 w' B R ((loadL L Mm.new).getD m) t :=
  (Load_any b.h x len cap L (hr.1.but b.k hr.2.1 fun h0 b' off e => by have := hr.2.2.1 h0 b' off e; simp [this]) hr.2.2.2).mono fun e w' h => ⟨h.1, b.page h.2.1 (load_ok b.ok L) h.2.2⟩
theorem bLoadR (b : Bp n0 w0 w B R m t) (x : Option Addr) (len cap : Nat) (L : List Sp) (hr : SpanX n0 w0 B R x len L) : Calls Try.prog 22 #[mp R, .slice x len cap] w fun e w' => e = .returned (.int .i64 (imgE (loadL L Mm.new))) ∧ Bp n0 w0 w' B R m ((loadL L Mm.new).getD t) :=
  (rLoad b.r x len cap L (hr.1.but b.k hr.2.1 fun h0 b' off e => by have := hr.2.2.1 h0 b' off e; simp [this]) hr.2.2.2).mono fun e w' h => ⟨h.1, b.ref h.2.1 (load_ok b.ok2 L) h.2.2⟩
end
end Go.Proofs.Ytmlaancmacipoaa
