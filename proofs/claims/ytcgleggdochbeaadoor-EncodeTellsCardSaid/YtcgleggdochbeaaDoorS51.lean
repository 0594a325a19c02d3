import Derived.Test.YtcgleggdochbeaaDoorS50
import Derived.Test.YtcgleggdochbeaaDoorRows
import Derived.WalkKit
import Derived.ProofKit
import Derived.Test.YtcgleggdochbeaaDoorS49
import Derived.OpenShut
import Derived.Deep.Slices
import Derived.Test.YtcgleggdochbeaaDoorS26
namespace Go.Proofs.YtcgleggdochbeaaDoor
open Go.RowKit
set_option maxRecDepth 100000
set_option maxHeartbeats 8000000
set_option linter.unusedVariables false
set_option linter.unusedSimpArgs false
set_option linter.unusedSectionVars false
theorem tells_none {k : In} (w : World) (hk : Wd k) (tabs : Tabs w) (hi : isE k = false) : Calls Tryd.prog 3 #[inV k] w fun e w' => e = .returned (.bool true) ∧ Below w.heap.size w w' := by
 have b0 := (Below.refl w.heap.size w).alloc (Nat.le_refl _) (.cells (in16 k) 26)
 have kB := Blk.new w 26 (in16 k)
 have hK := Lib.hid (known_any _ (tabs.below b0))
 have hE := Lib.hid (fun W t => Encode_at hk (x := 90) (z := []) (by unfold errE; rw [hi]; rfl) (by unfold bytesE; rw [hi]; rfl) W t)
 have hR := Lib.hid (fun W => ref_none (k := k) hi W)
 have hN := Lib.hid (fun W t => Len_at hk (x := 0) (by unfold lenE; rw [hi]; rfl) W t)
 go_enter Tryd.func3, Tryd.ntmps3
 go_upto_region 1 with fail
 generalize w.alloc (.cells (in16 k) 26) = W0 at *
 go_upto_region 5 with (first | ((with_reducible refine hK.out.mono ?_); rintro e W1 ⟨rfl, b1⟩; have b01 := b0.trans (b1.mono b0.size); have kB1 := kB.below b1 kB.lt) | (with_reducible refine load_inR rfl _ rfl w.heap.size (in16 k) rfl kB1 (in16_size _) ?_) | ((with_reducible refine (hE.out _ (tabs.below b01)).mono ?_); rintro e W2 ⟨v, rfl, Bv, b2⟩; have b02 := b01.trans (b2.mono b01.size); have kB2 := kB1.below b2 kB1.lt) | (with_reducible refine load_inR rfl _ rfl w.heap.size (in16 k) rfl kB2 (in16_size _) ?_) | ((with_reducible refine (hR.out _).mono ?_); rintro e W3 ⟨rfl, b3⟩))
 have kB3 := kB2.below b3 kB2.lt
 have b03 := b02.trans (b3.mono b02.size)
 have Bv3 := Bv.below b3
 have Bu := (El.nil W3 none).bs
 obtain ⟨va, vc, rfl, -⟩ := id Bv
 have cv := conv_bs Bv3
 have cu := conv_bs Bu
 try simp only [List.length_nil] at cv
 clear Bv Bv3 Bu
 go_wp2_with (first | (with_reducible refine load_inG (by kernel_rfl) _ rfl w.heap.size rfl (in16 k) (in16_size _) kB3 ?_) | ((with_reducible refine (hN.out _ (tabs.below b03)).mono ?_); rintro e W4 ⟨rfl, b4⟩))
 go_ret
 exact ⟨rfl, b03.trans (b4.mono b03.size)⟩
theorem tells_some {k : In} (w : World) (hk : Wd k) (tabs : Tabs w) (hi : isE k = true) : Calls Tryd.prog 3 #[inV k] w fun e w' => e = .returned (.bool true) ∧ Below w.heap.size w w' := by
 have b0 := (Below.refl w.heap.size w).alloc (Nat.le_refl _) (.cells (in16 k) 26)
 have kB := Blk.new w 26 (in16 k)
 have hK := Lib.hid (known_any _ (tabs.below b0))
 have hE := Lib.hid (fun W t => Encode_at hk (x := 0) (z := encM k) (by unfold errE; rw [hi]; rfl) (by unfold bytesE; rw [hi]; rfl) W t)
 have hR := Lib.hid (fun W => ref_some (k := k) hi hk W)
 have hN := Lib.hid (fun W t => Len_at hk (x := (encM k).length) (by unfold lenE; rw [hi]; rfl) W t)
 generalize encM k = z at *
 go_enter Tryd.func3, Tryd.ntmps3
 go_upto_region 1 with fail
 generalize w.alloc (.cells (in16 k) 26) = W0 at *
 go_upto_region 5 with (first | ((with_reducible refine hK.out.mono ?_); rintro e W1 ⟨rfl, b1⟩; have b01 := b0.trans (b1.mono b0.size); have kB1 := kB.below b1 kB.lt) | (with_reducible refine load_inR rfl _ rfl w.heap.size (in16 k) rfl kB1 (in16_size _) ?_) | ((with_reducible refine (hE.out _ (tabs.below b01)).mono ?_); rintro e W2 ⟨v, rfl, Bv, b2⟩; have b02 := b01.trans (b2.mono b01.size); have kB2 := kB1.below b2 kB1.lt) | (with_reducible refine load_inR rfl _ rfl w.heap.size (in16 k) rfl kB2 (in16_size _) ?_) | ((with_reducible refine (hR.out _).mono ?_); rintro e W3 ⟨u, rfl, Bu, b3⟩))
 have kB3 := kB2.below b3 kB2.lt
 have b03 := b02.trans (b3.mono b02.size)
 have Bv3 := Bv.below b3
 obtain ⟨ua, uc, rfl, -⟩ := id Bu
 obtain ⟨va, vc, rfl, -⟩ := id Bv
 have cv := conv_bs Bv3
 have cu := conv_bs Bu
 try simp only [List.length_nil] at cv
 clear Bv Bv3 Bu
 go_wp2_with (first | (with_reducible refine load_inG (by kernel_rfl) _ rfl w.heap.size rfl (in16 k) (in16_size _) kB3 ?_) | ((with_reducible refine (hN.out _ (tabs.below b03)).mono ?_); rintro e W4 ⟨rfl, b4⟩))
 go_ret
 exact ⟨rfl, b03.trans (b4.mono b03.size)⟩
theorem tells_any {k : In} (w : World) (hk : Wd k) (tabs : Tabs w) : Calls Tryd.prog 3 #[inV k] w fun e w' => e = .returned (.bool true) ∧ Below w.heap.size w w' := by
 cases hi : isE k
 ·exact tells_none w hk tabs hi
 ·exact tells_some w hk tabs hi
end Go.Proofs.YtcgleggdochbeaaDoor
namespace Go.Proofs.YtcgleggdochbeaaDoor
open Go.RowKit
end Go.Proofs.YtcgleggdochbeaaDoor
namespace Go.Proofs.YtcgleggdochbeaaDoor
open Go.ChangeShapes Go.WideShapes Go.ChangeAt Go.RowKit
set_option maxRecDepth 100000
set_option linter.unusedVariables false
set_option linter.unusedSimpArgs false
theorem wf32 {a : Int} (h : (Lit.int .u32 a).wf = true) : 0 ≤ a ∧ a ≤ 4294967295 := by
 simp [Lit.wf, IntKind.has, IntKind.min, IntKind.max, IntKind.bits, IntKind.signed] at h; exact h
instance : Inhabited In := ⟨inZ⟩
set_option linter.constructorNameAsVariable false
section
variable {H : Type} {enc : TypeId × Value → H} {w : World} {base : Nat} {spare : Nat → Bool} {held : Bool}
theorem cells_opd : Tryd.prog.cellsOf 24 = 6 := by kernel_rfl
theorem cells_ins : Tryd.prog.cellsOf 26 = 16 := by kernel_rfl
theorem cells_uw : Tryd.prog.cellsOf 22 = 1 := by kernel_rfl
theorem cells_iw : Tryd.prog.cellsOf 3 = 1 := by kernel_rfl
theorem cells_bw : Tryd.prog.cellsOf 4 = 1 := by kernel_rfl
theorem open_onw {fuel : Nat} {cs : List Value} {x : DataW H × List MemPlace} (h : DataW.trod enc Tryd.prog w base spare held fuel 24 cs = some x) :
  ∃ o : On, cs = [.int .i64 o.k, .int .i64 o.r, .int .u32 o.m, .int .i64 o.b, .int .i64 o.x, .int .u32 o.s] ∧ 0 ≤ o.m ∧ o.m ≤ 4294967295 := by
 obtain ⟨xs, n, _, -, hl, hlen, hq⟩ := DataW.trod_struct Tryd.underlying24 h
 rw [cells_opd] at hl
 match cs, hl with
 | [c0, c1, c2, c3, c4, c5], _ =>
 match xs, hlen with
 | [y0, y1, y2, y3, y4, y5], _ =>
 have g0 := hq 0 _ rfl
 have g1 := hq 1 _ rfl
 have g2 := hq 2 _ rfl
 have g3 := hq 3 _ rfl
 have g4 := hq 4 _ rfl
 have g5 := hq 5 _ rfl
 simp [cells_iw, cells_uw] at g0 g1 g2 g3 g4 g5
 obtain ⟨a0, e0, -⟩ := DataW.trod_int Tryd.underlying3 g0
 obtain ⟨a1, e1, -⟩ := DataW.trod_int Tryd.underlying3 g1
 obtain ⟨a2, e2, -, w2⟩ := DataW.trod_int Tryd.underlying22 g2
 obtain ⟨a3, e3, -⟩ := DataW.trod_int Tryd.underlying3 g3
 obtain ⟨a4, e4, -⟩ := DataW.trod_int Tryd.underlying3 g4
 obtain ⟨a5, e5, -⟩ := DataW.trod_int Tryd.underlying22 g5
 simp at e0 e1 e2 e3 e4 e5
 subst e0 e1 e2 e3 e4 e5
 exact ⟨⟨a0, a1, a2, a3, a4, a5⟩, rfl, wf32 w2⟩
theorem open_inw {fuel : Nat} {cs : List Value} {x : DataW H × List MemPlace} (h : DataW.trod enc Tryd.prog w base spare held fuel 26 cs = some x) :
  ∃ i : In, cs = (in16 i).toList ∧ Wd i := by
 obtain ⟨xs, n, _, -, hl, hlen, hq⟩ := DataW.trod_struct Tryd.underlying26 h
 rw [cells_ins] at hl
 match cs, hl with
 | [c0, c1, c2, c3, c4, c5, c6, c7, c8, c9, c10, c11, c12, c13, c14, c15], _ =>
 match xs, hlen with
 | [y0, y1, y2, y3, y4, y5], _ =>
 have g0 := hq 0 _ rfl
 have g1 := hq 1 _ rfl
 have g2 := hq 2 _ rfl
 have g3 := hq 3 _ rfl
 have g4 := hq 4 _ rfl
 have g5 := hq 5 _ rfl
 simp [cells_iw, cells_opd, cells_bw] at g0 g1 g2 g3 g4 g5
 obtain ⟨a0, e0, -⟩ := DataW.trod_int Tryd.underlying3 g0
 obtain ⟨a1, e1, -⟩ := DataW.trod_int Tryd.underlying3 g1
 obtain ⟨A, e2, hA⟩ := open_onw g2
 obtain ⟨B, e3, hB⟩ := open_onw g3
 obtain ⟨a4, e4, -⟩ := DataW.trod_bool Tryd.underlying4 g4
 obtain ⟨a5, e5, -⟩ := DataW.trod_int Tryd.underlying3 g5
 simp at e0 e1 e2 e3 e4 e5
 exact ⟨⟨a0, a1, A, B, a4, a5⟩, by simp [e0, e1, e2, e3, e4, e5], ⟨hA, hB⟩⟩
theorem open_wd {r : Reach} {b0 : Nat} {v : Value} {d : DataW H} {ps : List MemPlace} (hval : Value.okWide Tryd.prog w r b0 26 v) (hd : DataW.Trod enc Tryd.prog w base spare held 26 v d ps) :
  ∃ i : In, v = inV i ∧ Wd i := by
 obtain ⟨cs, rfl, hsz⟩ := okWide_struct Tryd.underlying26 hval
 obtain ⟨fuel, hf⟩ := hd
 obtain ⟨i, hf, hi⟩ := open_inw hf
 refine ⟨i, congrArg Value.agg (Array.ext' ?_), hi⟩
 simpa [Value.cells] using hf
end
end Go.Proofs.YtcgleggdochbeaaDoor
namespace Go.Proofs.YtcgleggdochbeaaDoor
open Go.ChangeShapes Go.WideShapes Go.ChangeAt Go.RowKit
set_option linter.unusedVariables false
set_option linter.unusedSimpArgs false
section
variable {H : Type} {enc : TypeId × Value → H} {w : World} {base : Nat} {spare : Nat → Bool} {held : Bool}
end
end Go.Proofs.YtcgleggdochbeaaDoor
