/-
  What the row's own list of variables gives the walks: the tables' cells; and that the program's own start meets the list.
-/
import Derived.Test.YtcdoidnfdkodoaaGreatDoorRows
import Derived.Test.YtcdoidnfdkodoaaGreatDoorS00
import Derived.WalkKit
import Derived.ProofKit
import Derived.LaidMore
import Derived.OpenShut
import Derived.Stop.Joined
import Derived.Stop.LaidErr
import Derived.Lib.LaidTab
import Derived.Deep.Strs
import Derived.Deep.Slices
import Derived.Below
import Derived.Lay
namespace Go.Proofs.YtcdoidnfdkodoaaGreatDoor
open Go.ChangeShapes Go.WideShapes Go.ChangeAt Go.RowKit
set_option linter.unusedVariables false
set_option linter.unusedSimpArgs false
def rA (k : Nat) : Int := match k with | 1 => 10 | 2 => 10 | 3 => 10 | 4 => 10 | 5 => 10 | 6 => 2 | 7 => 2 | 8 => 10 | 9 => 2 | 10 => 10 | 11 => 26 | 12 => 2 | 13 => 26 | 14 => 1 | 15 => 26 | 16 => 16 | 17 => 1 | 18 => 1 | 19 => 64 | 20 => 8 | _ => 0
def rB (k : Nat) : Int := match k with | 1 => 26 | 2 => 18 | 3 => 42 | 4 => 2 | 5 => 1 | 6 => 10 | 7 => 10 | 8 => 36 | 9 => 8 | 10 => 1 | 11 => 1 | 12 => 1 | 13 => 1 | 14 => 1 | 15 => 1 | 16 => 1 | 17 => 1 | 18 => 1 | 19 => 1 | 20 => 1 | _ => 0
def rC (k : Nat) : Bool := match k with | 7 => true | 10 => true | 16 => true | _ => false
def rR (k : Nat) : Bool := match k with | 18 => true | _ => false
def rE (k : Nat) : Bool := match k with | 13 => true | 14 => true | 15 => true | 16 => true | 19 => true | _ => false
def rT (k : Nat) : Int := match k with | 9 => 2 | 11 => 1 | 12 => 1 | 13 => 1 | 14 => 1 | 18 => 1 | 20 => 1 | _ => 0
abbrev rowA (k : Nat) : Array Value := #[.int .i64 (rA k), .int .i64 (rB k), .bool (rC k), .bool (rR k), .bool (rE k), .int .i64 (rT k)]
def grpL : List Int := [3, 4, 5, 6, 7, 8, 9, 10, 21, 22, 0, 0, 23, 24, 0, 25, 11, 0, 0, 0, 0, 0, 0, 0, 0, 0, 14, 15, 16, 17, 19, 20, 12, 13, 30, 0, 32, 0, 28, (-1), 1, (-1), (-1), (-1), (-1), (-1), (-1), (-1), 2, (-1), (-1), (-1), (-1), (-1), (-1), (-1), 34, 0, 0, 0, 0, 0, 0, 0, 47, 48, 53, 0, 49, 0, 50, 0, 45, 0, 0, 46, 0, 0, 0, 0]
def grp (k n : Nat) : Int := grpL.getD (k * 8 + n) 0
structure Rw where
  (g c op a b : Int)
deriving DecidableEq
abbrev rw5 (r : Rw) : Array Value := #[.int .u32 r.g, .int .u32 r.c, .int .i64 r.op, .int .i64 r.a, .int .i64 r.b]
abbrev rwV (r : Rw) : Value := .agg (rw5 r)
def rwZ : Rw := ⟨0, 0, 0, 0, 0⟩
def singleLD : List Rw := [⟨65479, 1, 54, 6, 5⟩,
  ⟨65479, 3, 54, 5, 6⟩,
  ⟨65479, 5, 54, 1, 9⟩,
  ⟨65528, 64, 12, 4, 0⟩,
  ⟨65528, 72, 13, 4, 0⟩,
  ⟨65528, 80, 28, 4, 0⟩,
  ⟨65528, 88, 29, 4, 0⟩,
  ⟨65535, 104, 28, 9, 0⟩,
  ⟨65535, 106, 28, 8, 0⟩,
  ⟨65520, 112, 33, 8, 0⟩,
  ⟨65535, 129, 54, 6, 9⟩,
  ⟨65535, 131, 54, 6, 8⟩,
  ⟨65535, 133, 11, 6, 5⟩,
  ⟨65535, 135, 27, 6, 5⟩,
  ⟨65535, 136, 2, 6, 5⟩,
  ⟨65535, 137, 1, 6, 5⟩,
  ⟨65535, 138, 2, 5, 6⟩,
  ⟨65535, 139, 1, 5, 6⟩,
  ⟨65535, 141, 26, 5, 6⟩,
  ⟨65535, 141, (-1), 0, 0⟩,
  ⟨65535, 144, 44, 0, 0⟩,
  ⟨65535, 153, 38, 0, 0⟩,
  ⟨65535, 165, 41, 0, 0⟩,
  ⟨65535, 169, 11, 1, 9⟩,
  ⟨65535, 171, 42, 0, 0⟩,
  ⟨65528, 176, 2, 4, 7⟩,
  ⟨65528, 184, 1, 4, 9⟩,
  ⟨65535, 193, 55, 6, 7⟩,
  ⟨65535, 195, 31, 0, 0⟩,
  ⟨65535, 198, 60, 6, 7⟩,
  ⟨65535, 199, 59, 6, 9⟩,
  ⟨65535, 205, 43, 7, 0⟩,
  ⟨65535, 209, 55, 6, 3⟩,
  ⟨65535, 211, 55, 6, 2⟩,
  ⟨65535, 220, 62, 6, 0⟩,
  ⟨65535, 221, 63, 6, 0⟩,
  ⟨65535, 232, 30, 9, 0⟩,
  ⟨65535, 233, 32, 9, 0⟩,
  ⟨65535, 235, 32, 8, 0⟩,
  ⟨65535, 247, 56, 6, 9⟩,
  ⟨65535, 247, 57, 6, 0⟩,
  ⟨65535, 252, 39, 0, 0⟩,
  ⟨65535, 253, 40, 0, 0⟩,
  ⟨65535, 255, 58, 6, 0⟩]
def doubleL : List Rw := [⟨65535, 3851, (-1), 0, 0⟩,
  ⟨65520, 3904, 35, 5, 6⟩,
  ⟨65520, 3968, 33, 9, 0⟩,
  ⟨65520, 3984, 61, 6, 0⟩,
  ⟨65535, 4015, 18, 5, 6⟩,
  ⟨65535, 4022, 36, 5, 6⟩,
  ⟨65535, 4030, 37, 5, 6⟩,
  ⟨65535, 55776, 51, 0, 0⟩,
  ⟨65535, 55777, 52, 0, 0⟩,
  ⟨65535, 62373, 41, 0, 0⟩,
  ⟨65535, 62379, 42, 0, 0⟩]
def RowsAt (W : World) (g n : Nat) (L : List Rw) : Prop :=
  ∃ b off cap, W.cell? ⟨g, 0, none⟩ = some (.slice (some ⟨b, off, none⟩) n cap) ∧ b < W.heap.size ∧ ∀ k, k < n → ∀ i, i < 5 → W.cell? ⟨b, off + k * 5 + i, none⟩ = (rw5 (L.getD k rwZ))[i]?
def wrT (k i : Nat) : Bool := match k with
  | 1 => true | 2 => true | 3 => i != 0 | 4 => i != 2 | 5 => i == 0 || i == 5 | 6 => i == 0 || i == 5 | _ => false
def rdT (k i : Nat) : Bool := match k with
  | 2 => i == 0 | 4 => i != 2 | 5 => i == 0 || i == 5 | 7 => true | _ => false
def Tabs (W : World) : Prop :=
  (7 ≤ W.heap.size ∧ (∀ k : Nat, k < 21 → ∀ i : Nat, i < 6 → W.cell? ⟨0, k * 6 + i, none⟩ = (rowA k)[i]?)) ∧
  (∀ k : Nat, k < 10 → ∀ i : Nat, i < 8 → W.cell? ⟨6, k * 8 + i, none⟩ = some (.int .i64 (grp k i))) ∧
  RowsAt W 1 44 singleLD ∧ RowsAt W 2 11 doubleL
theorem RowsAt.below {W W' : World} {g n : Nat} {L : List Rw} (h : RowsAt W g n L) (hg : g < W.heap.size) (b : Below W.heap.size W W') : RowsAt W' g n L := by
  obtain ⟨B, off, cap, h1, h2, h3⟩ := h
  refine ⟨B, off, cap, (b.cell (p := ⟨g, 0, none⟩) hg).trans h1, Nat.lt_of_lt_of_le h2 b.size, fun k hk i hi => (b.cell (p := ⟨B, _, none⟩) h2).trans (h3 k hk i hi)⟩
theorem Tabs.below {W W' : World} (h : Tabs W) (b : Below W.heap.size W W') : Tabs W' := by
  obtain ⟨⟨h0, h3⟩, h1, h2, h4⟩ := h
  have lt : ∀ k, k < 7 → k < W.heap.size := fun k hk => by omega
  refine ⟨⟨Nat.le_trans h0 b.size, fun k hk i hi => ?_⟩, fun k hk i hi => ?_, h2.below (lt _ (by decide)) b, h4.below (lt _ (by decide)) b⟩
  · rw [b.cell (Nat.lt_of_lt_of_le (show 0 < 7 by decide) h0)]; exact h3 k hk i hi
  · rw [b.cell (Nat.lt_of_lt_of_le (show 6 < 7 by decide) h0)]; exact h1 k hk i hi
theorem Tabs.row {W : World} (h : Tabs W) (k : Nat) (hk : k < 21) (i : Nat) (hi : i < 6) : W.cell? ⟨0, k * 6 + i, none⟩ = (rowA k)[i]? := h.1.2 k hk i hi
def TabsA (W : World) : Prop :=
  7 ≤ W.heap.size ∧
  (∀ k : Nat, k < 8 → ∀ i : Nat, i < 6 → W.cell? ⟨3, k * 12 + i, none⟩ = some (.bool (wrT k i)) ∧ W.cell? ⟨3, k * 12 + 6 + i, none⟩ = some (.bool (rdT k i)))
theorem TabsA.below {W W' : World} (h : TabsA W) (b : Below W.heap.size W W') : TabsA W' := by
  obtain ⟨h0, h1⟩ := h
  refine ⟨Nat.le_trans h0 b.size, fun k hk i hi => ?_⟩
  rw [b.cell (Nat.lt_of_lt_of_le (show 3 < 7 by decide) h0), b.cell (Nat.lt_of_lt_of_le (show 3 < 7 by decide) h0)]; exact h1 k hk i hi
def edgesTab : List Int := [1, 4503599627370496, 9218868437227405312, 9218868437227405313]
def TabsE (W : World) : Prop :=
  7 ≤ W.heap.size ∧
  W.cell? ⟨4, 0, none⟩ = some (.int .u64 1) ∧
  W.cell? ⟨4, 1, none⟩ = some (.int .u64 4503599627370496) ∧
  W.cell? ⟨4, 2, none⟩ = some (.int .u64 9218868437227405312) ∧
  W.cell? ⟨4, 3, none⟩ = some (.int .u64 9218868437227405313)
theorem TabsE.below {W W' : World} (h : TabsE W) (b : Below W.heap.size W W') : TabsE W' := by
  obtain ⟨h0, h1, h2, h3, h4⟩ := h
  refine ⟨Nat.le_trans h0 b.size, ?_, ?_, ?_, ?_⟩
  · rw [b.cell (Nat.lt_of_lt_of_le (by decide) h0)]; exact h1
  · rw [b.cell (Nat.lt_of_lt_of_le (by decide) h0)]; exact h2
  · rw [b.cell (Nat.lt_of_lt_of_le (by decide) h0)]; exact h3
  · rw [b.cell (Nat.lt_of_lt_of_le (by decide) h0)]; exact h4
structure Tb (W : World) : Prop where
  d : Tabs W
  a : TabsA W
  e : TabsE W
theorem Tb.below {W W' : World} (h : Tb W) (b : Below W.heap.size W W') : Tb W' := ⟨h.d.below b, h.a.below b, h.e.below b⟩
theorem gEf : Tryz.prog.globalNamed "ferryman/alu.effects" = some 3 := by kernel_rfl
theorem gEfType : (Tryz.prog.globals[3]?).map (·.type) = some 236 := by kernel_rfl
theorem gEdges : Tryz.prog.globalNamed "ferryman/float.edges" = some 4 := by kernel_rfl
theorem gEdgesType : (Tryz.prog.globals[4]?).map (·.type) = some 241 := by kernel_rfl
theorem cells_fl : Tryz.prog.cellsOf 26 = 6 := by kernel_rfl
theorem cells_ef : Tryz.prog.cellsOf 235 = 12 := by kernel_rfl
def dFl {H : Type} (b : Nat → Bool) : DataW H := .agg [.lit (.bool (b 0)), .lit (.bool (b 1)), .lit (.bool (b 2)), .lit (.bool (b 3)), .lit (.bool (b 4)), .lit (.bool (b 5))]
theorem gRo : Tryz.prog.globalNamed "ferryman/insn.rows" = some 0 := by kernel_rfl
theorem gRoType : (Tryz.prog.globals[0]?).map (·.type) = some 117 := by kernel_rfl
theorem gGr : Tryz.prog.globalNamed "ferryman/decode.groups" = some 6 := by kernel_rfl
theorem gGrType : (Tryz.prog.globals[6]?).map (·.type) = some 256 := by kernel_rfl
theorem gSi : Tryz.prog.globalNamed "ferryman/decode.single" = some 1 := by kernel_rfl
theorem gSiType : (Tryz.prog.globals[1]?).map (·.type) = some 224 := by kernel_rfl
theorem gDo : Tryz.prog.globalNamed "ferryman/decode.double" = some 2 := by kernel_rfl
theorem gDoType : (Tryz.prog.globals[2]?).map (·.type) = some 224 := by kernel_rfl
theorem cells_ro : Tryz.prog.cellsOf 116 = 6 := by kernel_rfl
theorem cells_in : Tryz.prog.cellsOf 3 = 1 := by kernel_rfl
theorem cells_u3 : Tryz.prog.cellsOf 23 = 1 := by kernel_rfl
theorem cells_bo : Tryz.prog.cellsOf 4 = 1 := by kernel_rfl
theorem cells_i8 : Tryz.prog.cellsOf 77 = 8 := by kernel_rfl
theorem cells_rw : Tryz.prog.cellsOf 226 = 5 := by kernel_rfl
def dRow {H : Type} (k : Nat) : DataW H := .agg [.lit (.int .i64 (rA k)), .lit (.int .i64 (rB k)), .lit (.bool (rC k)), .lit (.bool (rR k)), .lit (.bool (rE k)), .lit (.int .i64 (rT k))]
def dRw {H : Type} (r : Rw) : DataW H := .agg [.lit (.int .u32 r.g), .lit (.int .u32 r.c), .lit (.int .i64 r.op), .lit (.int .i64 r.a), .lit (.int .i64 r.b)]
def dGr {H : Type} (k : Nat) : DataW H := .agg ((List.range 8).map fun i => .lit (.int .i64 (grp k i)))
section
variable {H : Type} {enc : TypeId × Value → H} {w : World} {base : Nat} {spare : Nat → Bool} {held : Bool}
set_option maxRecDepth 8000 in
theorem row_of {fuel : Nat} {cs : List Value} {k : Nat} {p : List MemPlace} (h : DataW.trod enc Tryz.prog w base spare held fuel 116 cs = some (dRow k, p)) :
    cs = (rowA k).toList := by
  obtain ⟨xs, n, _, hd, hl, hlen, hq⟩ := DataW.trod_struct Tryz.underlying116 h
  rw [cells_ro] at hl
  match cs, hl with
  | [c0, c1, c2, c3, c4, c5], _ =>
  match xs, hlen with
  | [y0, y1, y2, y3, y4, y5], _ =>
  have g0 := hq 0 _ rfl
  have g1 := hq 1 _ rfl
  have g2 := hq 2 _ rfl
  have g3 := hq 3 _ rfl
  have g4 := hq 4 _ rfl
  have g5 := hq 5 _ rfl
  simp [cells_bo, cells_in] at g0 g1 g2 g3 g4 g5
  obtain ⟨a0, e0, z0, -⟩ := DataW.trod_int Tryz.underlying3 g0
  obtain ⟨a1, e1, z1, -⟩ := DataW.trod_int Tryz.underlying3 g1
  obtain ⟨a2, e2, z2⟩ := DataW.trod_bool Tryz.underlying4 g2
  obtain ⟨a3, e3, z3⟩ := DataW.trod_bool Tryz.underlying4 g3
  obtain ⟨a4, e4, z4⟩ := DataW.trod_bool Tryz.underlying4 g4
  obtain ⟨a5, e5, z5, -⟩ := DataW.trod_int Tryz.underlying3 g5
  subst z0 z1 z2 z3 z4 z5
  replace hd := congrArg Prod.fst hd
  simp [dRow] at hd
  simp at e0 e1 e2 e3 e4 e5
  subst e0 e1 e2 e3 e4 e5
  simp [rowA, hd]
set_option maxRecDepth 8000 in
theorem rw_of {fuel : Nat} {cs : List Value} {r : Rw} {p : List MemPlace} (h : DataW.trod enc Tryz.prog w base spare held fuel 226 cs = some (dRw r, p)) :
    cs = (rw5 r).toList := by
  obtain ⟨xs, n, _, hd, hl, hlen, hq⟩ := DataW.trod_struct Tryz.underlying226 h
  rw [cells_rw] at hl
  match cs, hl with
  | [c0, c1, c2, c3, c4], _ =>
  match xs, hlen with
  | [y0, y1, y2, y3, y4], _ =>
  have g0 := hq 0 _ rfl
  have g1 := hq 1 _ rfl
  have g2 := hq 2 _ rfl
  have g3 := hq 3 _ rfl
  have g4 := hq 4 _ rfl
  simp [cells_u3, cells_in] at g0 g1 g2 g3 g4
  obtain ⟨a0, e0, z0, -⟩ := DataW.trod_int Tryz.underlying23 g0
  obtain ⟨a1, e1, z1, -⟩ := DataW.trod_int Tryz.underlying23 g1
  obtain ⟨a2, e2, z2, -⟩ := DataW.trod_int Tryz.underlying3 g2
  obtain ⟨a3, e3, z3, -⟩ := DataW.trod_int Tryz.underlying3 g3
  obtain ⟨a4, e4, z4, -⟩ := DataW.trod_int Tryz.underlying3 g4
  subst z0 z1 z2 z3 z4
  replace hd := congrArg Prod.fst hd
  simp [dRw] at hd
  simp at e0 e1 e2 e3 e4
  subst e0 e1 e2 e3 e4
  simp [hd]
theorem rows_at {W : World} {base : Nat} {spare : Nat → Bool} {held : Bool} {fuel : Nat} {g : Nat} {cs : List Value} {L : List Rw} {p : List MemPlace} (hL : 0 < L.length)
    (hc : ∀ i v, cs[i]? = some v → W.cell? ⟨g, i, none⟩ = some v)
    (h : DataW.trod enc Tryz.prog W base spare held fuel 224 cs = some (.slice (L.map dRw) [], p)) : RowsAt W g L.length L := by
  rcases Go.Deep.open_slice Tryz.underlying224 h with ⟨-, hx⟩ | ⟨a, len, cap, m, n, D, Pl, rfl, hb, hl, hm, hmm, hx, hall⟩
  · cases hx
  · have hx1 := congrArg Prod.fst hx
    simp only [DataW.slice.injEq] at hx1
    have hlen := congrArg List.length hx1.1
    simp at hlen
    subst hlen
    have hlm : L.length ≤ m := by rw [hmm]; split <;> omega
    have key : ∀ k, k < L.length → ∀ i, i < 5 → W.cell? ((a.add (k * 5)).add i) = (rw5 (L.getD k rwZ))[i]? := by
      intro k hk i hi
      obtain ⟨cs', h1, h2⟩ := hall k (by omega)
      rw [cells_rw] at h1
      have hD : D k = dRw (L.getD k rwZ) := by
        have := congrArg (fun l => l[k]?) hx1.1
        simp [List.getElem?_map, hk] at this
        simp [List.getD_eq_getElem?_getD, hk, this]
      rw [hD] at h2
      have hcs := rw_of h2
      subst hcs
      obtain ⟨-, -, hcell⟩ := World.cells?_some h1
      have := hcell i hi
      simpa using this
    have e0 := key 0 hL 0 (by decide)
    obtain ⟨b, off, sp⟩ := a
    have hsp : sp = none := by
      cases sp with
      | none => rfl
      | some q =>
        simp [Addr.add, World.cell?] at e0
        split at e0 <;> simp at e0
    subst hsp
    have add_plain : ∀ b off i : Nat, (⟨b, off, none⟩ : Addr).add i = ⟨b, off + i, none⟩ := by
      intro b off i
      unfold Addr.add
      split
      · rename_i h; first | (simp; omega) | (simp; done)
      · simp
    refine ⟨b, off, cap, hc 0 _ rfl, ?_, fun k hk i hi => ?_⟩
    · rw [add_plain, add_plain] at e0
      exact size_of_cell e0
    · have := key k hk i hi
      rw [add_plain, add_plain] at this
      exact this
set_option maxRecDepth 8000 in
theorem grp_of {fuel : Nat} {cs : List Value} {k : Nat} {p : List MemPlace} (h : DataW.trod enc Tryz.prog w base spare held fuel 77 cs = some (dGr k, p)) :
    ∀ i, i < 8 → cs[i]? = some (.int .i64 (grp k i)) := by
  intro i hi
  obtain ⟨xs, m, rfl, e1, hl, hx, hi2⟩ := DataW.trod_array Tryz.underlying77 h
  have h2 := hi2 i hi
  rw [cells_in] at h2
  have h3 := congrArg (fun d => match d with | DataW.agg l => l[i]? | _ => none) (congrArg Prod.fst e1)
  simp only [dGr, List.getElem?_map] at h3
  rw [List.getElem?_range hi] at h3
  rcases hxk : xs[i]? with _ | ⟨d, q'⟩
  · rw [hxk] at h3; simp at h3
  · rw [hxk] at h2 h3
    simp only [Option.map_some, Option.some.injEq] at h3
    subst h3
    obtain ⟨a0, e0, z0, -⟩ := DataW.trod_int Tryz.underlying3 h2
    simp at z0
    obtain ⟨rfl, -⟩ := z0
    have : ((cs.drop (i * 1)).take 1)[0]? = some (Value.int .i64 (grp k i)) := by rw [e0]; rfl
    rw [List.getElem?_take, if_pos (by decide), List.getElem?_drop] at this
    simpa using this
set_option maxRecDepth 8000 in
theorem flags_of {fuel : Nat} {cs : List Value} {b : Nat → Bool} {p : List MemPlace} (h : DataW.trod enc Tryz.prog w base spare held fuel 26 cs = some (dFl b, p)) :
    cs = [.bool (b 0), .bool (b 1), .bool (b 2), .bool (b 3), .bool (b 4), .bool (b 5)] := by
  obtain ⟨xs, n, _, hd, hl, hlen, hq⟩ := DataW.trod_struct Tryz.underlying26 h
  rw [cells_fl] at hl
  match cs, hl with
  | [c0, c1, c2, c3, c4, c5], _ =>
  match xs, hlen with
  | [y0, y1, y2, y3, y4, y5], _ =>
  have g0 := hq 0 _ rfl
  have g1 := hq 1 _ rfl
  have g2 := hq 2 _ rfl
  have g3 := hq 3 _ rfl
  have g4 := hq 4 _ rfl
  have g5 := hq 5 _ rfl
  simp [cells_bo] at g0 g1 g2 g3 g4 g5
  obtain ⟨a0, e0, z0⟩ := DataW.trod_bool Tryz.underlying4 g0
  obtain ⟨a1, e1, z1⟩ := DataW.trod_bool Tryz.underlying4 g1
  obtain ⟨a2, e2, z2⟩ := DataW.trod_bool Tryz.underlying4 g2
  obtain ⟨a3, e3, z3⟩ := DataW.trod_bool Tryz.underlying4 g3
  obtain ⟨a4, e4, z4⟩ := DataW.trod_bool Tryz.underlying4 g4
  obtain ⟨a5, e5, z5⟩ := DataW.trod_bool Tryz.underlying4 g5
  subst z0 z1 z2 z3 z4 z5
  replace hd := congrArg Prod.fst hd
  simp [dFl] at hd
  simp at e0 e1 e2 e3 e4 e5
  subst e0 e1 e2 e3 e4 e5
  simp [hd]
set_option maxRecDepth 20000 in
theorem effect_of {fuel : Nat} {cs : List Value} {b c : Nat → Bool} {p : List MemPlace} (h : DataW.trod enc Tryz.prog w base spare held fuel 235 cs = some (.agg [dFl b, dFl c], p)) :
    cs = [.bool (b 0), .bool (b 1), .bool (b 2), .bool (b 3), .bool (b 4), .bool (b 5), .bool (c 0), .bool (c 1), .bool (c 2), .bool (c 3), .bool (c 4), .bool (c 5)] := by
  obtain ⟨xs, n, _, hd, hl, hlen, hq⟩ := DataW.trod_struct Tryz.underlying235 h
  rw [cells_ef] at hl
  match cs, hl with
  | [c0, c1, c2, c3, c4, c5, c6, c7, c8, c9, c10, c11], _ =>
  match xs, hlen with
  | [(y0, q0), (y1, q1)], _ =>
  have g0 := hq 0 _ rfl
  have g1 := hq 1 _ rfl
  replace hd := congrArg Prod.fst hd
  simp at hd
  obtain ⟨rfl, rfl⟩ := hd
  simp [cells_fl] at g0 g1
  have f0 := flags_of g0
  have f1 := flags_of g1
  simp at f0 f1
  simp [f0, f1]
end
set_option maxRecDepth 20000 in
theorem of_laid {W : World} (h : laidMetH Tryz.prog Rows.stepDoesRow.laid W) : Tb W := by
  rw [MakeChecks.laidMetH_plain _ _ _ (by kernel_rfl)] at h
  have hE := laidMet.tail h
  have hR := laidMet.tail hE
  have h1 := laidMet.tail hR
  have h2 := laidMet.tail h1
  have h9 := laidMet.tail h2
  have hr : ∀ k : Nat, k < 21 → ∀ i : Nat, i < 6 → W.cell? ⟨0, k * 6 + i, none⟩ = (rowA k)[i]? := by
    intro k hk i hi
    obtain ⟨ps, ⟨g', t', cs, fuel, p, q, hg', ht', hvar, hd, _, _⟩, _⟩ := hR
    obtain rfl := Option.some.inj (gRo.symm.trans hg')
    obtain rfl := Option.some.inj (gRoType.symm.trans ht')
    rw [show (Rows.laid_ferryman_insn_rows : DataW Unit) = .agg ((List.range 21).map dRow) by kernel_rfl] at hd
    obtain ⟨xs, m, rfl, e1, hl, hx, hi2⟩ := DataW.trod_array Tryz.underlying117 hd
    have h2 := hi2 k hk
    rw [cells_ro] at h2
    have h3 := congrArg (fun d => match d with | DataW.agg l => l[k]? | _ => none) (congrArg Prod.fst e1)
    simp only [List.getElem?_map] at h3
    rw [List.getElem?_range hk] at h3
    rcases hxk : xs[k]? with _ | ⟨d, q'⟩
    · rw [hxk] at h3; simp at h3
    · rw [hxk] at h2 h3
      simp only [Option.map_some, Option.some.injEq] at h3
      subst h3
      have hc := row_of h2
      refine (World.var?_cell gRo hvar _).trans ?_
      have hj : (rowA k)[i]? = (rowA k).toList[i]? := by simp
      rw [hj, ← hc, List.getElem?_take, if_pos hi, List.getElem?_drop]
      simp
  have he : ∀ k : Nat, k < 10 → ∀ i : Nat, i < 8 → W.cell? ⟨6, k * 8 + i, none⟩ = some (.int .i64 (grp k i)) := by
    intro k hk i hi
    obtain ⟨ps, ⟨g', t', cs, fuel, p, q, hg', ht', hvar, hd, _, _⟩, _⟩ := h1
    obtain rfl := Option.some.inj (gGr.symm.trans hg')
    obtain rfl := Option.some.inj (gGrType.symm.trans ht')
    rw [show (Rows.laid_ferryman_decode_groups : DataW Unit) = .agg ((List.range 10).map dGr) by kernel_rfl] at hd
    obtain ⟨xs, m, rfl, e1, hl, hx, hi2⟩ := DataW.trod_array Tryz.underlying256 hd
    have h2 := hi2 k hk
    rw [cells_i8] at h2
    have h3 := congrArg (fun d => match d with | DataW.agg l => l[k]? | _ => none) (congrArg Prod.fst e1)
    simp only [List.getElem?_map] at h3
    rw [List.getElem?_range hk] at h3
    rcases hxk : xs[k]? with _ | ⟨d, q'⟩
    · rw [hxk] at h3; simp at h3
    · rw [hxk] at h2 h3
      simp only [Option.map_some, Option.some.injEq] at h3
      subst h3
      have hc := grp_of h2 i hi
      refine (World.var?_cell gGr hvar _).trans ?_
      rw [List.getElem?_take, if_pos hi, List.getElem?_drop] at hc
      simpa using hc
  have hs : RowsAt W 1 44 singleLD := by
    obtain ⟨ps, ⟨g', t', cs, fuel, p, q, hg', ht', hvar, hd, _, _⟩, _⟩ := h2
    obtain rfl := Option.some.inj (gSi.symm.trans hg')
    obtain rfl := Option.some.inj (gSiType.symm.trans ht')
    rw [show (Rows.laid_ferryman_decode_single : DataW Unit) = .slice (singleLD.map dRw) [] by kernel_rfl] at hd
    exact rows_at (L := singleLD) (by decide) (fun i v hi => (World.var?_cell gSi hvar _).trans (by simpa using hi)) hd
  have hb : RowsAt W 2 11 doubleL := by
    obtain ⟨ps, ⟨g', t', cs, fuel, p, q, hg', ht', hvar, hd, _, _⟩, _⟩ := h9
    obtain rfl := Option.some.inj (gDo.symm.trans hg')
    obtain rfl := Option.some.inj (gDoType.symm.trans ht')
    rw [show (Rows.laid_ferryman_decode_double : DataW Unit) = .slice (doubleL.map dRw) [] by kernel_rfl] at hd
    exact rows_at (L := doubleL) (by decide) (fun i v hi => (World.var?_cell gDo hvar _).trans (by simpa using hi)) hd
  have hA : ∀ k : Nat, k < 8 → ∀ i : Nat, i < 6 → W.cell? ⟨3, k * 12 + i, none⟩ = some (.bool (wrT k i)) ∧ W.cell? ⟨3, k * 12 + 6 + i, none⟩ = some (.bool (rdT k i)) := by
    intro k hk i hi
    obtain ⟨ps, ⟨g', t', cs, fuel, p, q, hg', ht', hvar, hd, _, _⟩, _⟩ := h
    obtain rfl := Option.some.inj (gEf.symm.trans hg')
    obtain rfl := Option.some.inj (gEfType.symm.trans ht')
    rw [show (Rows.laid_ferryman_alu_effects : DataW Unit) = .agg ((List.range 8).map fun k => .agg [dFl (wrT k), dFl (rdT k)]) by kernel_rfl] at hd
    obtain ⟨xs, m, rfl, e1, hl, hx, hi2⟩ := DataW.trod_array Tryz.underlying236 hd
    have h2 := hi2 k hk
    rw [cells_ef] at h2
    have h3 := congrArg (fun d => match d with | DataW.agg l => l[k]? | _ => none) (congrArg Prod.fst e1)
    simp only [List.getElem?_map] at h3
    rw [List.getElem?_range hk] at h3
    rcases hxk : xs[k]? with _ | ⟨d, q'⟩
    · rw [hxk] at h3; simp at h3
    · rw [hxk] at h2 h3
      simp only [Option.map_some, Option.some.injEq] at h3
      subst h3
      have hc := effect_of h2
      have hci : ∀ j v, [Value.bool (wrT k 0), .bool (wrT k 1), .bool (wrT k 2), .bool (wrT k 3), .bool (wrT k 4), .bool (wrT k 5), .bool (rdT k 0), .bool (rdT k 1), .bool (rdT k 2), .bool (rdT k 3), .bool (rdT k 4), .bool (rdT k 5)][j]? = some v → W.cell? ⟨3, k * 12 + j, none⟩ = some v := by
        intro j v hj
        refine (World.var?_cell gEf hvar _).trans ?_
        have hj12 : j < 12 := by
          have := (List.getElem?_eq_some_iff.1 hj).1
          simpa using this
        rw [← hc, List.getElem?_take, if_pos hj12, List.getElem?_drop] at hj
        simpa using hj
      refine ⟨hci i _ ?_, ?_⟩
      · rcases (by omega : i = 0 ∨ i = 1 ∨ i = 2 ∨ i = 3 ∨ i = 4 ∨ i = 5) with rfl | rfl | rfl | rfl | rfl | rfl <;> rfl
      · rw [Nat.add_assoc]
        refine hci (6 + i) _ ?_
        rcases (by omega : i = 0 ∨ i = 1 ∨ i = 2 ∨ i = 3 ∨ i = 4 ∨ i = 5) with rfl | rfl | rfl | rfl | rfl | rfl <;> rfl
  have eE : Lib.TabIs Tryz.prog W "ferryman/float.edges" .u64 edgesTab := Lib.tabIs_of_head gEdges gEdgesType Tryz.underlying241 Tryz.underlying27 (by kernel_rfl) (by kernel_rfl) hE
  have k0 := eE.cell gEdges 0 (by decide)
  have k1 := eE.cell gEdges 1 (by decide)
  have k2 := eE.cell gEdges 2 (by decide)
  have k3 := eE.cell gEdges 3 (by decide)
  have sz : 7 ≤ W.heap.size := by
    have z1 := size_of_cell (he 0 (by decide) 0 (by decide))
    omega
  exact ⟨⟨⟨sz, hr⟩, he, hs, hb⟩, ⟨sz, hA⟩, ⟨sz, k0, k1, k2, k3⟩⟩
set_option maxRecDepth 20000 in
theorem door_met (os : Os) (args : Array Value) : laidMetH Tryz.prog Rows.stepDoesRow.laid ((World.laidAll Tryz.prog os Rows.stepDoesRow.laid).forCall (fun _ _ => 0) ⟨#[], args, []⟩).memory := by
  rw [MakeChecks.laidMetH_plain _ _ _ (by kernel_rfl)]; exact laidMet_laidAll _ (by kernel_rfl) (by kernel_rfl)
end Go.Proofs.YtcdoidnfdkodoaaGreatDoor
