import Derived.Test.YtcdoidnfdkodoaaGreatDoorS43
namespace Go.Proofs.YtcdoidnfdkodoaaGreatDoor
open Go.RowKit
set_option linter.unusedVariables false
set_option linter.unusedSimpArgs false
set_option linter.unusedSectionVars false
section
variable {n0 : Nat} {w0 w : World} {B : Nat} {m : Mm}
theorem kp_mapG (p : Pg n0 w0 w B m) (a n v : Int) (ha : I64 a) (he : mapE m a n v = true) : Calls Tryz.prog 29 #[mp B, .int .i64 a, .int .i64 n, .int .i64 v] w fun e w' => e = .returned (.int .i64 0) ∧ Pg n0 w0 w' B (mapS m a n v) ∧ But [B] w.heap.size w w' := by
  have q := pMap p a n v ha
  rwa [he, show errM true = 0 from rfl] at q
theorem kp_pokeG (p : Pg n0 w0 w B m) (a : Int) (ha : 0 ≤ a ∧ a ≤ 4294967295) (x : Option Addr) (len c : Nat) (zs : List Int) (hr : Row8 w x len zs) (hl : len ≤ 9223372036854775807) (he : pokeE m a zs = true) : Calls Tryz.prog 32 #[mp B, .int .u32 a, .slice x len c] w fun e w' => e = .returned (.int .i64 0) ∧ Pg n0 w0 w' B (pokeS m a zs) ∧ But [B] w.heap.size w w' := by
  have hb := hr
  obtain ⟨hz1, hz2, hz3⟩ := hb
  have q := Poke_any p.h p.ok a ha x len c zs hr hl
  rw [he, show errM true = 0 from rfl] at q
  exact q.mono fun e w' h => ⟨h.1, p.step h.2.1 (pokeS_ok p.ok a ha zs hz2) h.2.2, h.2.2⟩
end
theorem row_mid (w : World) (N off n : Nat) (zs : List Int) (cs : Array Value) (k : Blk w N 5 cs) (hl : zs.length = n) (hz : ∀ z ∈ zs, 0 ≤ z ∧ z ≤ 255) (hc : ∀ i, i < n → cs[off + i]? = some (.int .u8 (zs.getD i 0))) : Row8 w (some ⟨N, off, none⟩) n zs :=
  ⟨hl, hz, .inr ⟨N, off, rfl, k.lt, fun i hi => k.cell (hc i hi)⟩⟩
def iMv : In := ⟨1, 0, ⟨1, 0, 0, 0, 0, 0⟩, ⟨2, 0, 7, 0, 0, 0⟩, false, 5⟩
end Go.Proofs.YtcdoidnfdkodoaaGreatDoor
