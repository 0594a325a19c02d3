/- PageRights. -/
import Derived.Test.YtohkfkojheecoaaL1
namespace Go.Proofs.Ytohkfkojheecoaa
open Go.RowKit
set_option linter.unusedVariables false
set_option linter.unusedSimpArgs false
set_option linter.unusedSectionVars false

/-- The first of d from j on, or -1. -/
def bdL (P : Nat → Bool) : Nat → Nat → Int
  | 0, _ => -1
  | d + 1, j => if P j = true then j else bdL P d (j + 1)
theorem bd_none {P : Nat → Bool} : ∀ (d j : Nat), (∀ i, j ≤ i → i < j + d → P i = false) → bdL P d j = -1
  | 0, _, _ => rfl
  | d + 1, j, h => by
    unfold bdL
    rw [h j (Nat.le_refl _) (by omega), if_neg (by decide)]
    exact bd_none d (j + 1) fun i h1 h2 => h i (by omega) (by omega)
theorem bd_some {P : Nat → Bool} {k : Nat} (hk : P k = true) : ∀ (d j : Nat), j ≤ k → k < j + d → (∀ i, j ≤ i → i < k → P i = false) → bdL P d j = k
  | 0, _, h1, h2, _ => by omega
  | d + 1, j, h1, h2, h => by
    unfold bdL
    by_cases e : j = k
    · subst e; rw [if_pos hk]
    · rw [h j (Nat.le_refl _) (by omega), if_neg (by decide)]
      exact bd_some hk d (j + 1) (by omega) (by omega) fun i g1 g2 => h i (by omega) g2
theorem bd_lack (m : Mm) (a r : Int) (n : Nat) : bdL (lackP m a r) n 0 = match lackL m a r n with | none => -1 | some j => (j : Int) := by
  cases h : lackL m a r n with
  | none => exact bd_none n 0 fun i _ hi => lack_none h i (by omega)
  | some k =>
    obtain ⟨h1, h2, h3⟩ := lack_some h
    exact bd_some h2 n 0 (by omega) (by omega) fun i _ hi => h3 i hi
/-- Pages 4, 5, 6 with rights, where they are any. -/
def mR (Y : Nat → Int) (k : Nat) : Mm := ⟨fun i => if 4 ≤ i ∧ i < 4 + k then Y (i - 4) else 0, fun _ => 0⟩
theorem mR_zero (Y : Nat → Int) : mR Y 0 = Mm.new := by
  unfold mR Mm.new; congr 1; funext i; rw [if_neg (by omega)]
theorem mR_skip (Y : Nat → Int) (k : Nat) (h : Y k = 0) : mR Y (k + 1) = mR Y k := by
  unfold mR; congr 1; funext i
  by_cases h1 : i = 4 + k
  · subst h1; rw [if_pos (by omega), if_neg (by omega), show 4 + k - 4 = k by omega, h]
  · by_cases h2 : 4 ≤ i ∧ i < 4 + k
    · rw [if_pos (by omega), if_pos h2]
    · rw [if_neg (by omega), if_neg h2]
theorem mR_map (Y : Nat → Int) (k : Nat) (hk : k < 3) (h : 0 < Y k ∧ Y k ≤ 7) : mapE (mR Y k) (4 + (k : Int)) 1 (Y k) = true ∧ mapS (mR Y k) (4 + (k : Int)) 1 (Y k) = mR Y (k + 1) := by
  have he : mapE (mR Y k) (4 + (k : Int)) 1 (Y k) = true := by
    unfold mapE canL
    rw [are_iff.2 h, there_iff.2 (by omega), show (4 + (k : Int)).toNat = 4 + k by omega, show (1 : Int).toNat = 1 from rfl]
    unfold allL allL mR
    rw [Nat.add_zero]
    dsimp only
    rw [if_neg (by omega)]; rfl
  refine ⟨he, ?_⟩
  unfold mapS
  rw [if_pos he, show (4 + (k : Int)).toNat = 4 + k by omega, show (1 : Int).toNat = 1 from rfl]
  unfold setR mR
  congr 1
  funext i
  dsimp only
  by_cases h1 : i = 4 + k
  · subst h1; rw [if_pos (by omega), if_pos (by omega), show 4 + k - 4 = k by omega]
  · rw [if_neg (by omega)]
    by_cases h2 : 4 ≤ i ∧ i < 4 + k
    · rw [if_pos h2, if_pos (by omega)]
    · rw [if_neg h2, if_neg (by omega)]
theorem ix3 (b j : Nat) (h : j < 3) (W : World) : (Instr.indexAt 47 (.pointer (some ⟨b, 0, none⟩)) (.int .i64 (j : Int))).run Try.prog W = .ok (.pointer (some ⟨b, j, none⟩)) W := by
  have s1 : ∀ W, (sizeOf 5).run Try.prog W = .ok 1 W := fun W => by kernel_rfl
  have hj : (j : Int) < 3 := by omega
  simp [Instr.indexAt, run_underlying Try.underlying47, s1, go_sem, hj, h, Instr.sureAddr]
/-- What is known ahead of each right. -/
structure Rt (n0 : Nat) (w0 w : World) (B bx : Nat) (X : Nat → Int) (m : Mm) : Prop where
  g : Pg n0 w0 w B m
  c : ∀ K, K < 3 → w.cell? ⟨bx, K, none⟩ = some (.int .u8 (X K))
  ne : bx < n0
theorem Rt.step {n0 : Nat} {w0 w w' : World} {B bx : Nat} {X : Nat → Int} {m m' : Mm} (t : Rt n0 w0 w B bx X m) (g : Pg n0 w0 w' B m') (k : But [B] w.heap.size w w') : Rt n0 w0 w' B bx X m' := by
  refine ⟨g, fun K hK => ?_, t.ne⟩
  have hb : w'.heap[bx]? = w.heap[bx]? := k.block bx (Nat.lt_of_lt_of_le t.ne t.g.sz) (by have := t.ne; have := t.g.l; simp; omega)
  have := t.c K hK
  simp only [World.cell?, hb] at this ⊢
  exact this
theorem Rt.below {n0 : Nat} {w0 w w' : World} {B bx : Nat} {X : Nat → Int} {m : Mm} (t : Rt n0 w0 w B bx X m) (k : Below w.heap.size w w') : Rt n0 w0 w' B bx X m := t.step (t.g.below k) (But.of k _)
theorem Rt.other {n0 : Nat} {w0 w w' : World} {B bx F : Nat} {X : Nat → Int} {m : Mm} (t : Rt n0 w0 w B bx X m) (hF : n0 ≤ F) (hB : B ≠ F) (k : But [F] w.heap.size w w') : Rt n0 w0 w' B bx X m := by
  refine ⟨⟨t.g.h.but k t.g.h.lt (by simpa using hB), t.g.ok, t.g.k.trans (k.mono t.g.sz (fun x hx => .inr (by simp at hx; omega))), t.g.l⟩, fun K hK => ?_, t.ne⟩
  have hb : w'.heap[bx]? = w.heap[bx]? := k.block bx (Nat.lt_of_lt_of_le t.ne t.g.sz) (by have := t.ne; simp; omega)
  have := t.c K hK
  simp only [World.cell?, hb] at this ⊢
  exact this
set_option maxHeartbeats 4000000 in
set_option maxRecDepth 8000 in
theorem rights_walk (cs : Array Value) (X : Nat → Int) (hcs : cs.size = 3 ∧ ∀ i, i < 3 → cs[i]? = some (.int .u8 (X i)) ∧ 0 ≤ X i ∧ X i ≤ 255) (at_ bt v : Int) (hat : (Lit.int .u16 at_).wf = true) (hbt : (Lit.int .u8 bt).wf = true) (hv' : (Lit.int .u32 v).wf = true) (w : World) :
    Calls Try.prog 4 #[.agg cs, .int .u16 at_, .int .u8 bt, .int .u32 v] w fun e w' => e = .returned (.bool true) ∧ Below w.heap.size w w' := by
  have hv := wfb_u32 hv'
  have hb := wfb_u8 hbt
  have ha : 0 ≤ at_ ∧ at_ ≤ 65535 := by
    simp [Lit.wf, IntKind.min, IntKind.max, IntKind.signed] at hat
    obtain ⟨h0, h1⟩ := hat
    exact ⟨h0, h1⟩
  clear hv' hbt hat
  obtain ⟨hsz, hx⟩ := hcs
  obtain rfl : cs = #[.int .u8 (X 0), .int .u8 (X 1), .int .u8 (X 2)] := by
    apply Array.ext_getElem?
    intro i
    by_cases hi : i < 3
    · rw [(hx i hi).1]
      rcases (by omega : i = 0 ∨ i = 1 ∨ i = 2) with rfl | rfl | rfl <;> rfl
    · rw [Array.getElem?_eq_none (by omega), Array.getElem?_eq_none (by simp; omega)]
  have x0 := (hx 0 (by decide)).2
  have x1 := (hx 1 (by decide)).2
  have x2 := (hx 2 (by decide)).2
  clear hsz
  go_enter Try.func4, Try.ntmps4
  go_wp2_with fail
  have kb := (Below.refl w.heap.size w).alloc (Nat.le_refl _) (.cells #[.int .u8 (X 0), .int .u8 (X 1), .int .u8 (X 2)] 47)
  have cb : ∀ K, K < 3 → (w.alloc (.cells #[.int .u8 (X 0), .int .u8 (X 1), .int .u8 (X 2)] 47)).cell? ⟨w.heap.size, K, none⟩ = some (.int .u8 (X K)) := fun K hK => by
    rw [World.cell?_alloc_new]; exact (hx K hK).1
  have zb : w.heap.size < (w.alloc (.cells #[.int .u8 (X 0), .int .u8 (X 1), .int .u8 (X 2)] 47)).heap.size := by simp
  generalize w.alloc (.cells #[.int .u8 (X 0), .int .u8 (X 1), .int .u8 (X 2)] 47) = wb at *
  have hX : ∀ i, i < 3 → 0 ≤ X i ∧ X i ≤ 255 := fun i hi => (hx i hi).2
  clear hx x0 x1 x2
  refine (known_any _).mono ?_
  rintro e w0 ⟨rfl, b0⟩
  have s0 := b0.size
  go_wp2_with fail
  refine (pNew _).mono ?_
  rintro e w1 ⟨rfl, p1⟩
  have t1 : Rt w0.heap.size w0 w1 w0.heap.size w.heap.size X Mm.new := ⟨p1, fun K hK => by
    rw [p1.done.cell (p := ⟨w.heap.size, K, none⟩) (show w.heap.size < w0.heap.size by omega), b0.cell (p := ⟨w.heap.size, K, none⟩) zb]; exact cb K hK, by omega⟩
  rw [← mR_zero (fun i => X i % 8)] at t1
  clear p1 cb
  have b1 := kb.trans (b0.mono (Nat.le_of_lt zb))
  have sw : w.heap.size ≤ w0.heap.size := by omega
  clear kb b0
  generalize w0.heap.size = B at *
  generalize hbx : w.heap.size = bx at *
  have hbx' := hid hbx
  clear hbx
  go_wp2_with fail
  go_loopw [10] (fun ii W => ∃ k : Nat, k ≤ 3 ∧ ii = .int .i64 k ∧ Rt B w0 W B bx X (mR (fun i => X i % 8) k)) (fun ii _ => (3 - intOf ii).toNat)
  case atStart => exact ⟨0, by omega, rfl, t1⟩
  case round =>
    obtain ⟨k, hk, rfl, tk⟩ := hrel
    by_cases hlt : k < 3
    · have hc := tk.c k hlt
      have hXk := hX k hlt
      have hix := ix3 bx k hlt
      by_cases h0 : X k % 8 = 0
      · have hs := hid (mR_skip (fun i => X i % 8) k h0)
        generalize X k = x at *
        go_wp2_with fail
        go_roundw
        case rel => exact ⟨k + 1, by omega, by go_num, by rw [hs.out]; exact tk⟩
        case measure => simp [intOf]; omega
      · obtain ⟨m1, m2⟩ := mR_map (fun i => X i % 8) k hlt (show 0 < X k % 8 ∧ X k % 8 ≤ 7 by omega)
        have q := pMap tk.g (4 + (k : Int)) 1 (X k % 8) (by omega)
        change mapE (mR (fun i => X i % 8) k) (4 + (k : Int)) 1 (X k % 8) = true at m1
        change mapS (mR (fun i => X i % 8) k) (4 + (k : Int)) 1 (X k % 8) = _ at m2
        rw [m1, m2] at q
        rw [show errM true = 0 from rfl] at q
        clear m1 m2
        generalize X k = x at *
        go_wp2_with fail
        refine q.mono ?_
        rintro e w2 ⟨rfl, p2, k2⟩
        have t2 := tk.step p2 k2
        clear q
        go_wp2_with fail
        go_roundw
        case rel => exact ⟨k + 1, by omega, by go_num, t2⟩
        case measure => simp [intOf]; omega
    · obtain rfl : k = 3 := by omega
      rw [show ((3 : Nat) : Int) = 3 from rfl]
      obtain ⟨a, hA, hA1, hA2⟩ : ∃ a : Nat, 1024 + at_ % 768 = a ∧ 1024 ≤ a ∧ a ≤ 1791 := ⟨(1024 + at_ % 768).toNat, by omega, by omega, by omega⟩
      obtain ⟨n, hn, hn4⟩ : ∃ n : Nat, (∀ W, (Instr.index 49 (.agg #[.int .i64 1, .int .i64 2, .int .i64 4]) (.int .u8 (bt % 3))).run Try.prog W = .ok (.int .i64 n) W) ∧ (n = 1 ∨ n = 2 ∨ n = 4) := by
        rcases (by omega : bt % 3 = 0 ∨ bt % 3 = 1 ∨ bt % 3 = 2) with h | h | h
        · exact ⟨1, fun W => by rw [h]; kernel_rfl, by omega⟩
        · exact ⟨2, fun W => by rw [h]; kernel_rfl, by omega⟩
        · exact ⟨4, fun W => by rw [h]; kernel_rfl, by omega⟩
      have hY : ∀ i, (mR (fun i => X i % 8) 3).r i = if 4 ≤ i ∧ i < 7 then X (i - 4) % 8 else 0 := fun i => rfl
      generalize mR (fun i => X i % 8) 3 = m0 at *
      clear t1 hk hlt
      go_wp2_with fail
      go_loopw [55] (fun ii W => ∃ (k : Nat) (m : Mm), k ≤ 3 ∧ ii = .int .i64 k ∧ Rt B w0 W B bx X m ∧ m.r = m0.r) (fun ii _ => (3 - intOf ii).toNat)
      case atStart => exact ⟨0, m0, by omega, rfl, tk, rfl⟩
      case round =>
        clear tk
        obtain ⟨k, m, hk, rfl, tk, hmr⟩ := hrel
        by_cases hlt : k < 3
        · obtain ⟨r, hr, hri⟩ : ∃ r : Int, (∀ W, (Instr.index 49 (.agg #[.int .i64 1, .int .i64 2, .int .i64 4]) (.int .i64 (k : Int))).run Try.prog W = .ok (.int .i64 r) W) ∧ (r = 1 ∨ r = 2 ∨ r = 4) := by
            rcases (by omega : k = 0 ∨ k = 1 ∨ k = 2) with rfl | rfl | rfl
            · exact ⟨1, fun W => by kernel_rfl, by omega⟩
            · exact ⟨2, fun W => by kernel_rfl, by omega⟩
            · exact ⟨4, fun W => by kernel_rfl, by omega⟩
          have hP : ∀ i : Nat, i < 4 → lackP m a r i = decide (m.r ((a + i) / 256) / r % 2 = 0) := fun i hi => by
            unfold lackP
            rw [show (((a : Int) + i) % 4294967296 / 256).toNat = (a + i) / 256 by omega]
          rw [hmr] at hP
          have hbl := bd_lack m a r n
          generalize hPP : lackP m a r = P at hP hbl
          clear hPP
          have hk3 : decide ((k : Int) < 3) = true := decide_eq_true (by omega)
          go_wp2_with fail
          go_loopw [15, 16] (fun bb ii W => ∃ j : Nat, j ≤ n ∧ ii = .int .i64 ((j : Int) - 1) ∧ bb = .int .i64 (bdL P (n - j) j) ∧ W = wr) (fun _ ii _ => (intOf ii + 1).toNat)
          case atStart => exact ⟨n, by omega, rfl, by rw [Nat.sub_self]; rfl, rfl⟩
          case round =>
            obtain ⟨j, hj, rfl, rfl, rfl⟩ := hrel
            cases j with
            | zero =>
              have hnum : numL (n : Int) = n := by rcases hn4 with rfl | rfl | rfl <;> rfl
              rw [Nat.sub_zero, hbl, show (((0 : Nat) : Int) - 1) = -1 by omega]
              clear hP hbl
              have hs := single_or r
              have kF := (Below.refl wr.heap.size wr).alloc (Nat.le_refl _) (.cells #[.int .i64 0, .int .u32 0, .int .u32 0, .int .i64 0] 51)
              have A4 := Four.begun wr 0 0 0 0 51
              have zF := tk.g.sz
              have tF := tk.below kF
              have zF2 := size_of_cell A4.c0
              clear kF
              rcases (by omega : r = 2 ∨ r = 1 ∨ r = 4) with rfl | hr2
              · clear hri hs
                have hwr : (wroteM m a n v).r = m0.r := by
                  rw [← hmr]; unfold wroteM; split <;> rfl
                have hcp := Copy_any tF.g.h
                have hbad : lackL m a 2 (numL n) = lackL m a 2 n := by rw [hnum]
                cases hl : lackL m a 2 n with
                | none =>
                  go_wp2_with fail
                  generalize wr.alloc (.cells #[.int .i64 0, .int .u32 0, .int .u32 0, .int .i64 0] 51) = wF at *
                  have zB := tk.g.h.lt
                  generalize wr.heap.size = F at *
                  refine hcp.mono ?_
                  rintro e w2 ⟨rfl, hc2, k2⟩
                  have t2 := tF.below k2
                  replace A4 := A4.but (But.of k2 []) zF2 (by simp)
                  clear hcp tF
                  have q := pWrite t2.g a n v (by omega) hv
                  rw [hbad, hl, show fltOf none a 2 = fltV 0 0 0 0 from rfl] at q
                  go_wp2_with fail
                  refine q.mono ?_
                  rintro e w3 ⟨rfl, p3, k3⟩
                  have t3 := t2.step p3 k3
                  replace A4 := A4.but k3 (size_of_cell A4.c0) (by simp; omega)
                  clear q t2 p3
                  have hst := A4.stored 0 0 0 0
                  have kS := (But.refl [F] w3.heap.size w3).stored4 (K := F) (by simp) (.int .i64 0) (.int .u32 0) (.int .u32 0) (.int .i64 0)
                  have t4 := t3.other zF (by omega) kS
                  obtain ⟨f0, f1, f2, f3, ff⟩ := A4
                  have ff0 := ff 0
                  have ff1 := ff 1
                  have ff2 := ff 2
                  have ff3 := ff 3
                  clear ff kS t3
                  clear hc2 k2 k3 hst hl hbad
                  go_wp2_with fail
                  go_roundw
                  case rel => exact ⟨k + 1, _, by omega, by go_num, t4, hwr⟩
                  case measure => simp [intOf]; omega
                | some j =>
                  have hj4 := (lack_some hl).1
                  go_wp2_with fail
                  generalize wr.alloc (.cells #[.int .i64 0, .int .u32 0, .int .u32 0, .int .i64 0] 51) = wF at *
                  have zB := tk.g.h.lt
                  generalize wr.heap.size = F at *
                  refine hcp.mono ?_
                  rintro e w2 ⟨rfl, hc2, k2⟩
                  have t2 := tF.below k2
                  replace A4 := A4.but (But.of k2 []) zF2 (by simp)
                  clear hcp tF
                  have q := pWrite t2.g a n v (by omega) hv
                  have hwm : wroteM m a n v = m := by unfold wroteM; rw [hbad, hl]; rfl
                  rw [hbad, hl, hwm, show fltOf (some j) a 2 = fltV 1 0 (((a : Int) + j) % 4294967296) 2 from rfl, show ((a : Int) + j) % 4294967296 = a + j by omega] at q
                  go_wp2_with fail
                  refine q.mono ?_
                  rintro e w3 ⟨rfl, p3, k3⟩
                  have t3 := t2.step p3 k3
                  replace A4 := A4.but k3 (size_of_cell A4.c0) (by simp; omega)
                  clear q t2 p3
                  have hst := A4.stored 1 0 ((a : Int) + j) 2
                  have kS := (But.refl [F] w3.heap.size w3).stored4 (K := F) (by simp) (.int .i64 1) (.int .u32 0) (.int .u32 ((a : Int) + j)) (.int .i64 2)
                  have t4 := t3.other zF (by omega) kS
                  have hcs := (hc2.but k3 hc2.lt (by have := t3.g.h.lt; have := t3.g.l; have := k2.size; simp; omega)).but kS (Nat.lt_of_lt_of_le hc2.lt k3.size) (by simp; omega)
                  have hsm := Same_any t4.g.h hcs
                  obtain ⟨f0, f1, f2, f3, ff⟩ := A4
                  have ff0 := ff 0
                  have ff1 := ff 1
                  have ff2 := ff 2
                  have ff3 := ff 3
                  clear ff kS t3
                  clear hc2 k2 k3 hl hbad hwm
                  go_wp2_with fail
                  refine hsm.mono ?_
                  rintro e w5 ⟨rfl, k5⟩
                  have t5 := t4.below k5
                  obtain ⟨g0, g1, g2, g3, -⟩ := hst.but (But.of k5 []) (size_of_cell hst.c0) (by simp)
                  clear hsm hcs k5 t4 hst f0 f1 f2 f3 ff0 ff1 ff2 ff3
                  have hjn : ((j : Int) < 0) = False := by simp
                  go_wp2_with fail
                  go_roundw
                  case rel => exact ⟨k + 1, m, by omega, by go_num, t5, hmr⟩
                  case measure => simp [intOf]; omega
              · have hsr : singleL r = r := by rcases hr2 with rfl | rfl <;> rfl
                have hr0 : (r == 2) = false := by rcases hr2 with rfl | rfl <;> rfl
                have hbad : lackL m a (singleL r) (numL n) = lackL m a r n := by rw [hnum, hsr]
                clear hri hs
                cases hl : lackL m a r n with
                | none =>
                  have q := pRead tF.g a n r (by omega)
                  rw [hbad, hl, show fltOf none a (singleL r) = fltV 0 0 0 0 from rfl] at q
                  generalize readM m a n r = rd at *
                  go_wp2_with fail
                  generalize wr.alloc (.cells #[.int .i64 0, .int .u32 0, .int .u32 0, .int .i64 0] 51) = wF at *
                  have zB := tk.g.h.lt
                  generalize wr.heap.size = F at *
                  refine q.mono ?_
                  rintro e w3 ⟨rfl, p3, k3⟩
                  have t3 := tF.below k3
                  replace A4 := A4.but (But.of k3 []) zF2 (by simp)
                  clear q tF p3
                  have hst := A4.stored 0 0 0 0
                  have kS := (But.refl [F] w3.heap.size w3).stored4 (K := F) (by simp) (.int .i64 0) (.int .u32 0) (.int .u32 0) (.int .i64 0)
                  have t4 := t3.other zF (by omega) kS
                  obtain ⟨f0, f1, f2, f3, ff⟩ := A4
                  have ff0 := ff 0
                  have ff1 := ff 1
                  have ff2 := ff 2
                  have ff3 := ff 3
                  clear ff kS t3
                  clear k3 hst hl hbad
                  go_wp2_with fail
                  go_roundw
                  case rel => exact ⟨k + 1, m, by omega, by go_num, t4, hmr⟩
                  case measure => simp [intOf]; omega
                | some j =>
                  have hj4 := (lack_some hl).1
                  have q := pRead tF.g a n r (by omega)
                  rw [hbad, hl, show fltOf (some j) a (singleL r) = fltV 1 0 (((a : Int) + j) % 4294967296) (singleL r) from rfl, hsr, show ((a : Int) + j) % 4294967296 = a + j by omega] at q
                  generalize readM m a n r = rd at *
                  go_wp2_with fail
                  generalize wr.alloc (.cells #[.int .i64 0, .int .u32 0, .int .u32 0, .int .i64 0] 51) = wF at *
                  have zB := tk.g.h.lt
                  generalize wr.heap.size = F at *
                  refine q.mono ?_
                  rintro e w3 ⟨rfl, p3, k3⟩
                  have t3 := tF.below k3
                  replace A4 := A4.but (But.of k3 []) zF2 (by simp)
                  clear q tF p3
                  have hst := A4.stored 1 0 ((a : Int) + j) r
                  have kS := (But.refl [F] w3.heap.size w3).stored4 (K := F) (by simp) (.int .i64 1) (.int .u32 0) (.int .u32 ((a : Int) + j)) (.int .i64 r)
                  have t4 := t3.other zF (by omega) kS
                  obtain ⟨f0, f1, f2, f3, ff⟩ := A4
                  have ff0 := ff 0
                  have ff1 := ff 1
                  have ff2 := ff 2
                  have ff3 := ff 3
                  clear ff kS t3
                  obtain ⟨g0, g1, g2, g3, -⟩ := hst
                  clear k3 hl hbad
                  have hjn : ((j : Int) < 0) = False := by simp
                  go_wp2_with fail
                  go_roundw
                  case rel => exact ⟨k + 1, m, by omega, by go_num, t4, hmr⟩
                  case measure => simp [intOf]; omega
            | succ i =>
              rw [show (((i + 1 : Nat) : Int) - 1) = i by omega]
              have hPi := hP i (by omega)
              have hbd : bdL P (n - i) i = if P i = true then (i : Int) else bdL P (n - (i + 1)) (i + 1) := by
                rw [show n - i = (n - (i + 1)) + 1 by omega]; rfl
              generalize hz : bdL P (n - (i + 1)) (i + 1) = z at *
              have hz' := hid hz
              clear hz hP hbl
              rcases (by omega : 1792 ≤ a + i ∨ a + i < 1792) with h7 | h7
              · have hK : ((a : Int) + i) / 256 - 4 = 3 := by omega
                have hp : P i = true := by rw [hPi, hY, if_neg (by omega)]; simp
                rw [hp, if_pos rfl] at hbd
                have hbd' := hid hbd
                clear hbd hPi hp
                go_wp2_with fail
                go_roundw
                case rel => exact ⟨i, by omega, rfl, by rw [hbd'.out], trivial⟩
                case measure => simp [intOf]
              · obtain ⟨K, hKa, hK3⟩ : ∃ K : Nat, (a + i) / 256 = K + 4 ∧ K < 3 := ⟨(a + i) / 256 - 4, by omega, by omega⟩
                have hK : ((a : Int) + i) / 256 - 4 = K := by omega
                rw [hKa, hY, if_pos (by omega), Nat.add_sub_cancel, ← and_right (by omega) hri] at hPi
                have hix := ix3 bx K hK3
                have hc := tk.c K hK3
                have hXK := hX K hK3
                generalize X K = x at *
                clear hKa
                cases hp : P i with
                | true =>
                  rw [hp, if_pos rfl] at hbd
                  have hbd' := hid hbd
                  rw [hp] at hPi
                  replace hPi := hPi.symm
                  clear hbd hp
                  go_wp2_with fail
                  go_roundw
                  case rel => exact ⟨i, by omega, rfl, by rw [hbd'.out], trivial⟩
                  case measure => simp [intOf]
                | false =>
                  rw [hp, if_neg (by decide)] at hbd
                  have hbd' := hid hbd
                  rw [hp] at hPi
                  replace hPi := hPi.symm
                  clear hbd hp
                  go_wp2_with fail
                  go_roundw
                  case rel => exact ⟨i, by omega, rfl, by rw [hbd'.out], trivial⟩
                  case measure => simp [intOf]
        · obtain rfl : k = 3 := by omega
          have d := b1.trans (tk.g.done.mono sw)
          go_wp2_with fail
          go_ret
          rw [hbx'.out]
          exact ⟨rfl, d⟩
end Go.Proofs.Ytohkfkojheecoaa
