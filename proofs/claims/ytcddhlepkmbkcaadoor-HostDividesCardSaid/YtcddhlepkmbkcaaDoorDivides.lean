/- HostDivides. -/
import Derived.Test.YtcddhlepkmbkcaaDoorG1
import Derived.Laws.StructEq
namespace Go.Proofs.YtcddhlepkmbkcaaDoor
open Go.RowKit
set_option linter.unusedVariables false
set_option linter.unusedSimpArgs false
set_option linter.unusedSectionVars false

def dS (x a b : Int) : St := setS (setS (storeS newS 1024 4 x) 1 a) 2 b
theorem dS_step {x a b op : Int} (ho : op = 42 ∨ op = 43 ∨ op = 44 ∨ op = 45) (hl : isL op 3 1 2 0 = true) (he : encL op 3 1 2 0 = x) (hb : 0 ≤ b ∧ b ≤ 4294967295) :
    stepL (dS x a b) = (0, { dS x a b with x := setX (dS x a b).x 3 (quotL op a b), pc := 1028 }) := by
  have bx : 0 ≤ x ∧ x ≤ 4294967295 := he ▸ enc_bd hl
  have h1 : (dS x a b).x 1 = a := by simp [dS, storeS, setS, setX]
  have h2 : (dS x a b).x 2 = b := by simp [dS, storeS, setS, setX]
  have h3 : aluL op a b = quotL op a b := by rcases ho with rfl | rfl | rfl | rfl <;> rfl
  rw [step_word (s := dS x a b) (by rfl) (show wordM (storeM newS.m 1024 4 x) 1024 4 = _ by rw [he]; exact load_store bx) hl, doL_alu _ _ _ _ _ _ (by omega), h1, h2, show (b + 0) % 4294967296 = b by omega, h3]
  rfl
theorem dS_x3 {x a b v : Int} : getX { dS x a b with x := setX (dS x a b).x 3 v, pc := 1028 } 3 = v := by simp [getX, setX]
theorem enc_law (op d r1 r2 i x : Int) (hl : isL op d r1 r2 i = true) (he : encL op d r1 r2 i = x) (w : World) :
    Calls Tryd.prog 11 #[wordV op d r1 r2 i] w fun e w' => e = .returned (.tuple #[.int .u32 x, .bool true]) ∧ Below w.heap.size w w' := by
  have hr := rEnc_any op d r1 r2 i (isL_regs hl).2.2.2.2 w
  rw [hl, he, if_pos rfl] at hr
  exact hr
/-- The four results, as far as there are. -/
structure Outs (W : World) (L : Nat) (q0 q1 q2 q3 : Int) : Prop where
  c0 : W.cell? ⟨L, 0, none⟩ = some (.int .u32 q0)
  c1 : W.cell? ⟨L, 1, none⟩ = some (.int .u32 q1)
  c2 : W.cell? ⟨L, 2, none⟩ = some (.int .u32 q2)
  c3 : W.cell? ⟨L, 3, none⟩ = some (.int .u32 q3)
  f : ∀ i : Nat, W.frozen? ⟨L, i, none⟩ = false
theorem Outs.lt {W : World} {L : Nat} {q0 q1 q2 q3 : Int} (h : Outs W L q0 q1 q2 q3) : L < W.heap.size := size_of_cell h.c0
theorem Outs.below {W W' : World} {L n : Nat} {q0 q1 q2 q3 : Int} (h : Outs W L q0 q1 q2 q3) (b : Below n W W') (hn : L < n) : Outs W' L q0 q1 q2 q3 :=
  ⟨(b.cell (p := ⟨L, 0, none⟩) hn).trans h.c0, (b.cell (p := ⟨L, 1, none⟩) hn).trans h.c1, (b.cell (p := ⟨L, 2, none⟩) hn).trans h.c2, (b.cell (p := ⟨L, 3, none⟩) hn).trans h.c3, fun i => (b.frozen (p := ⟨L, i, none⟩) hn).trans (h.f i)⟩
theorem eq_word (x : Int) (d : Nat) (W : World) : (Op.equalIn (d + 1) 24 (.int .u32 x) (.int .u32 x)).run Tryd.prog W = .ok true W := by
  simp [Op.equalIn, run_underlying Tryd.underlying24]
theorem part_word (xs : Array Value) (i : Nat) (v : Value) (h : xs[i]? = some v) (W : World) : (part 24 xs i).run Tryd.prog W = .ok v W := by
  have hs : ∀ W, (isAgg 24).run Tryd.prog W = .ok false W := fun W => by kernel_rfl
  simp [part, hs, h, Result.andThen]
theorem eq4_any (d : Nat) (x0 x1 x2 x3 : Int) (W : World) : (Op.equalIn (d + 2) 48 (.agg #[.int .u32 x0, .int .u32 x1, .int .u32 x2, .int .u32 x3]) (.agg #[.int .u32 x0, .int .u32 x1, .int .u32 x2, .int .u32 x3])).run Tryd.prog W = .ok true W := by
  have s1 : ∀ W, (sizeOf 24).run Tryd.prog W = .ok 1 W := fun W => by kernel_rfl
  have p := fun (i : Nat) v h => part_word #[.int .u32 x0, .int .u32 x1, .int .u32 x2, .int .u32 x3] i v h
  have p0 := p 0 _ rfl
  have p1 := p 1 _ rfl
  have p2 := p 2 _ rfl
  have p3 := p 3 _ rfl
  rw [Op.equalIn]
  simp only [Sem.run_bind, run_underlying Tryd.underlying48, Result.andThen_ok, s1]
  simp [Std.Legacy.Range.forIn_eq_forIn_range', List.range', p0, p1, p2, p3, eq_word, Result.andThen]
theorem eq4 (x0 x1 x2 x3 : Int) (W : World) : (Op.equalIn 10000 48 (.agg #[.int .u32 x0, .int .u32 x1, .int .u32 x2, .int .u32 x3]) (.agg #[.int .u32 x0, .int .u32 x1, .int .u32 x2, .int .u32 x3])).run Tryd.prog W = .ok true W := eq4_any 9998 x0 x1 x2 x3 W
theorem Outs.set0 {W : World} {L : Nat} {q0 q1 q2 q3 : Int} (h : Outs W L q0 q1 q2 q3) (v : Int) : Outs (W.setCell ⟨L, 0, none⟩ (.int .u32 v)) L v q1 q2 q3 :=
  ⟨by simp [World.cell?_setCell_same', h.c0], by simp [World.cell?_setCell_other, h.c1], by simp [World.cell?_setCell_other, h.c2], by simp [World.cell?_setCell_other, h.c3], fun i => by simpa using h.f i⟩
theorem Outs.set1 {W : World} {L : Nat} {q0 q1 q2 q3 : Int} (h : Outs W L q0 q1 q2 q3) (v : Int) : Outs (W.setCell ⟨L, 1, none⟩ (.int .u32 v)) L q0 v q2 q3 :=
  ⟨by simp [World.cell?_setCell_other, h.c0], by simp [World.cell?_setCell_same', h.c1], by simp [World.cell?_setCell_other, h.c2], by simp [World.cell?_setCell_other, h.c3], fun i => by simpa using h.f i⟩
theorem Outs.set2 {W : World} {L : Nat} {q0 q1 q2 q3 : Int} (h : Outs W L q0 q1 q2 q3) (v : Int) : Outs (W.setCell ⟨L, 2, none⟩ (.int .u32 v)) L q0 q1 v q3 :=
  ⟨by simp [World.cell?_setCell_other, h.c0], by simp [World.cell?_setCell_other, h.c1], by simp [World.cell?_setCell_same', h.c2], by simp [World.cell?_setCell_other, h.c3], fun i => by simpa using h.f i⟩
theorem Outs.set3 {W : World} {L : Nat} {q0 q1 q2 q3 : Int} (h : Outs W L q0 q1 q2 q3) (v : Int) : Outs (W.setCell ⟨L, 3, none⟩ (.int .u32 v)) L q0 q1 q2 v :=
  ⟨by simp [World.cell?_setCell_other, h.c0], by simp [World.cell?_setCell_other, h.c1], by simp [World.cell?_setCell_other, h.c2], by simp [World.cell?_setCell_same', h.c3], fun i => by simpa using h.f i⟩
theorem back_signed {a b : Int} (ha : 0 ≤ a ∧ a ≤ 4294967295) (hb : 0 ≤ b ∧ b ≤ 4294967295) (h0 : ¬ b = 0) : (quotL 42 a b * b % 4294967296 + quotL 44 a b) % 4294967296 = a := by
  have e1 : quotL 42 a b = Int.tdiv (wrap32 a) (wrap32 b) % 4294967296 := by simp [quotL, h0]
  have e2 : quotL 44 a b = Int.tmod (wrap32 a) (wrap32 b) % 4294967296 := by simp [quotL, h0]
  rw [e1, e2]
  have h := Int.tdiv_mul_add_tmod (wrap32 a) (wrap32 b)
  generalize Int.tdiv (wrap32 a) (wrap32 b) = t at *
  generalize Int.tmod (wrap32 a) (wrap32 b) = r at *
  obtain ⟨c, hc⟩ : ∃ c, b = wrap32 b + 4294967296 * c := ⟨(b - wrap32 b) / 4294967296, by unfold wrap32; omega⟩
  have e3 : (t % 4294967296 * b % 4294967296 + r % 4294967296) % 4294967296 = (t * b + r) % 4294967296 := by
    simp [Int.add_emod, Int.mul_emod]
  rw [e3, hc, show t * (wrap32 b + 4294967296 * c) + r = (t * wrap32 b + r) + 4294967296 * (t * c) by rw [Int.mul_add, Int.mul_left_comm t 4294967296 c]; omega, h, Int.add_mul_emod_self_left]
  unfold wrap32; omega
theorem back_plain {a b : Int} (ha : 0 ≤ a ∧ a ≤ 4294967295) (hb : 0 ≤ b ∧ b ≤ 4294967295) (h0 : ¬ b = 0) : (quotL 43 a b * b % 4294967296 + quotL 45 a b) % 4294967296 = a := by
  have e1 : quotL 43 a b = a / b := by simp [quotL, h0]
  have e2 : quotL 45 a b = a % b := by simp [quotL, h0]
  rw [e1, e2]
  have h := Int.mul_ediv_add_emod a b
  have hn := Int.emod_nonneg a h0
  have : (a / b * b % 4294967296 + a % b) % 4294967296 = (a / b * b + a % b) % 4294967296 := by simp [Int.add_emod]
  rw [this, Int.mul_comm, h]
  omega
theorem rest_less {a b : Int} (hb : 0 ≤ b ∧ b ≤ 4294967295) (h0 : ¬ b = 0) : quotL 45 a b < b := by
  have e2 : quotL 45 a b = a % b := by simp [quotL, h0]
  rw [e2]
  exact Int.emod_lt_of_pos a (by omega)
theorem frozen_set {W : World} {p a : Addr} {v : Value} : (W.setCell p v).frozen? a = W.frozen? a := by simp
def q4 (a b : Int) (k j : Nat) : Int := if j < k then quotL (42 + j) a b else 0
set_option maxHeartbeats 2000000 in
set_option maxRecDepth 20000 in
theorem divides_walk (a b : Int) (ha : 0 ≤ a ∧ a ≤ 4294967295) (hb : 0 ≤ b ∧ b ≤ 4294967295) (w : World) (tabs : Tabs w) :
    Calls Tryd.prog 6 #[.int .u32 a, .int .u32 b] w fun e w' => e = .returned (.bool true) ∧ Below w.heap.size w w' := by
  have x0 : ∀ W, (Instr.index 49 (.agg #[.int .i64 42, .int .i64 43, .int .i64 44, .int .i64 45]) (.int .i64 0)).run Tryd.prog W = .ok (.int .i64 42) W := fun W => by kernel_rfl
  have x1 : ∀ W, (Instr.index 49 (.agg #[.int .i64 42, .int .i64 43, .int .i64 44, .int .i64 45]) (.int .i64 1)).run Tryd.prog W = .ok (.int .i64 43) W := fun W => by kernel_rfl
  have x2 : ∀ W, (Instr.index 49 (.agg #[.int .i64 42, .int .i64 43, .int .i64 44, .int .i64 45]) (.int .i64 2)).run Tryd.prog W = .ok (.int .i64 44) W := fun W => by kernel_rfl
  have x3 : ∀ W, (Instr.index 49 (.agg #[.int .i64 42, .int .i64 43, .int .i64 44, .int .i64 45]) (.int .i64 3)).run Tryd.prog W = .ok (.int .i64 45) W := fun W => by kernel_rfl
  go_enter Tryd.func6, Tryd.ntmps6
  go_wp2_with fail
  refine (known_any _ tabs).mono ?_
  rintro e w0 ⟨rfl, b0⟩
  have tabs0 := tabs.below b0
  go_wp2_with fail
  have o0 : Outs (w0.alloc (.cells #[.int .u32 0, .int .u32 0, .int .u32 0, .int .u32 0] 48)) w0.heap.size 0 0 0 0 :=
    ⟨by simp, by simp, by simp, by simp, fun i => by simp⟩
  have k0 : Below w0.heap.size w0 (w0.alloc (.cells #[.int .u32 0, .int .u32 0, .int .u32 0, .int .u32 0] 48)) := (Below.refl _ _).alloc (Nat.le_refl _) _
  generalize hL : w0.heap.size = L at *
  go_loopw [14] (fun ii W => ∃ k : Nat, k ≤ 4 ∧ ii = .int .i64 k ∧ Outs W L (q4 a b k 0) (q4 a b k 1) (q4 a b k 2) (q4 a b k 3) ∧ Below L w0 W) (fun ii _ => (4 - intOf ii).toNat)
  case atStart => exact ⟨0, by omega, rfl, o0, k0⟩
  case round =>
    clear o0 k0
    obtain ⟨k, hk, rfl, o, kb⟩ := hrel
    have tabsW := tabs0.below (hL ▸ kb)
    rcases (by omega : k = 0 ∨ k = 1 ∨ k = 2 ∨ k = 3 ∨ k = 4) with rfl | rfl | rfl | rfl | rfl
    · go_wp2_with fail
      refine (enc_law 42 3 1 2 0 35701171 (by decide) (by decide) _).mono ?_
      rintro e v1 ⟨rfl, k1⟩
      have tabs1 := tabsW.below k1
      go_wp2_with fail
      refine (aNew _ tabs1).mono ?_
      rintro e v2 ⟨rfl, A⟩
      go_wp2_with fail
      refine (aStore A 1024 4 35701171 (by decide) (by decide) (by decide)).mono ?_
      rintro e v3 ⟨rfl, A⟩
      go_wp2_with fail
      refine (aSetX A 1 a ha rfl).mono ?_
      rintro e v4 ⟨rfl, A⟩
      go_wp2_with fail
      refine (aSetX A 2 b hb rfl).mono ?_
      rintro e v5 ⟨rfl, A⟩
      go_wp2_with fail
      refine (aStep (s := dS 35701171 a b) A (dS_step (op := 42) (by decide) (by decide) (by decide) hb)).mono ?_
      rintro e v6 ⟨rfl, A⟩
      go_wp2_with fail
      refine (aX A 3 (quotL 42 a b) dS_x3).mono ?_
      rintro e v7 ⟨rfl, A⟩
      have kd := k1.trans (A.done.mono k1.size)
      have hLw := o.lt
      replace o := o.below kd hLw
      replace kb := kb.trans (kd.mono (Nat.le_of_lt hLw))
      have c0 := o.c0
      have c1 := o.c1
      have c2 := o.c2
      have c3 := o.c3
      have ff := o.f
      go_wp2_with fail
      go_roundw
      case rel => exact ⟨1, by omega, by go_num, o.set0 _, kb.setCell (by simp) _⟩
      case measure => simp [intOf]
    · go_wp2_with fail
      refine (enc_law 43 3 1 2 0 35705267 (by decide) (by decide) _).mono ?_
      rintro e v1 ⟨rfl, k1⟩
      have tabs1 := tabsW.below k1
      go_wp2_with fail
      refine (aNew _ tabs1).mono ?_
      rintro e v2 ⟨rfl, A⟩
      go_wp2_with fail
      refine (aStore A 1024 4 35705267 (by decide) (by decide) (by decide)).mono ?_
      rintro e v3 ⟨rfl, A⟩
      go_wp2_with fail
      refine (aSetX A 1 a ha rfl).mono ?_
      rintro e v4 ⟨rfl, A⟩
      go_wp2_with fail
      refine (aSetX A 2 b hb rfl).mono ?_
      rintro e v5 ⟨rfl, A⟩
      go_wp2_with fail
      refine (aStep (s := dS 35705267 a b) A (dS_step (op := 43) (by decide) (by decide) (by decide) hb)).mono ?_
      rintro e v6 ⟨rfl, A⟩
      go_wp2_with fail
      refine (aX A 3 (quotL 43 a b) dS_x3).mono ?_
      rintro e v7 ⟨rfl, A⟩
      have kd := k1.trans (A.done.mono k1.size)
      have hLw := o.lt
      replace o := o.below kd hLw
      replace kb := kb.trans (kd.mono (Nat.le_of_lt hLw))
      have c0 := o.c0
      have c1 := o.c1
      have c2 := o.c2
      have c3 := o.c3
      have ff := o.f
      go_wp2_with fail
      go_roundw
      case rel => exact ⟨2, by omega, by go_num, o.set1 _, kb.setCell (by simp) _⟩
      case measure => simp [intOf]
    · go_wp2_with fail
      refine (enc_law 44 3 1 2 0 35709363 (by decide) (by decide) _).mono ?_
      rintro e v1 ⟨rfl, k1⟩
      have tabs1 := tabsW.below k1
      go_wp2_with fail
      refine (aNew _ tabs1).mono ?_
      rintro e v2 ⟨rfl, A⟩
      go_wp2_with fail
      refine (aStore A 1024 4 35709363 (by decide) (by decide) (by decide)).mono ?_
      rintro e v3 ⟨rfl, A⟩
      go_wp2_with fail
      refine (aSetX A 1 a ha rfl).mono ?_
      rintro e v4 ⟨rfl, A⟩
      go_wp2_with fail
      refine (aSetX A 2 b hb rfl).mono ?_
      rintro e v5 ⟨rfl, A⟩
      go_wp2_with fail
      refine (aStep (s := dS 35709363 a b) A (dS_step (op := 44) (by decide) (by decide) (by decide) hb)).mono ?_
      rintro e v6 ⟨rfl, A⟩
      go_wp2_with fail
      refine (aX A 3 (quotL 44 a b) dS_x3).mono ?_
      rintro e v7 ⟨rfl, A⟩
      have kd := k1.trans (A.done.mono k1.size)
      have hLw := o.lt
      replace o := o.below kd hLw
      replace kb := kb.trans (kd.mono (Nat.le_of_lt hLw))
      have c0 := o.c0
      have c1 := o.c1
      have c2 := o.c2
      have c3 := o.c3
      have ff := o.f
      go_wp2_with fail
      go_roundw
      case rel => exact ⟨3, by omega, by go_num, o.set2 _, kb.setCell (by simp) _⟩
      case measure => simp [intOf]
    · go_wp2_with fail
      refine (enc_law 45 3 1 2 0 35713459 (by decide) (by decide) _).mono ?_
      rintro e v1 ⟨rfl, k1⟩
      have tabs1 := tabsW.below k1
      go_wp2_with fail
      refine (aNew _ tabs1).mono ?_
      rintro e v2 ⟨rfl, A⟩
      go_wp2_with fail
      refine (aStore A 1024 4 35713459 (by decide) (by decide) (by decide)).mono ?_
      rintro e v3 ⟨rfl, A⟩
      go_wp2_with fail
      refine (aSetX A 1 a ha rfl).mono ?_
      rintro e v4 ⟨rfl, A⟩
      go_wp2_with fail
      refine (aSetX A 2 b hb rfl).mono ?_
      rintro e v5 ⟨rfl, A⟩
      go_wp2_with fail
      refine (aStep (s := dS 35713459 a b) A (dS_step (op := 45) (by decide) (by decide) (by decide) hb)).mono ?_
      rintro e v6 ⟨rfl, A⟩
      go_wp2_with fail
      refine (aX A 3 (quotL 45 a b) dS_x3).mono ?_
      rintro e v7 ⟨rfl, A⟩
      have kd := k1.trans (A.done.mono k1.size)
      have hLw := o.lt
      replace o := o.below kd hLw
      replace kb := kb.trans (kd.mono (Nat.le_of_lt hLw))
      have c0 := o.c0
      have c1 := o.c1
      have c2 := o.c2
      have c3 := o.c3
      have ff := o.f
      go_wp2_with fail
      go_roundw
      case rel => exact ⟨4, by omega, by go_num, o.set3 _, kb.setCell (by simp) _⟩
      case measure => simp [intOf]
    · clear x0 x1 x2 x3
      replace o : Outs wr L (quotL 42 a b) (quotL 43 a b) (quotL 44 a b) (quotL 45 a b) := o
      have kz : Below w.heap.size w wr := b0.trans (kb.mono (hL ▸ b0.size))
      by_cases h0 : b = 0
      · subst h0
        replace o : Outs wr L 4294967295 4294967295 a a := o
        have c0 := o.c0
        have c1 := o.c1
        have c2 := o.c2
        have c3 := o.c3
        have he := eq4 4294967295 4294967295 a a
        go_wp2_with fail
        go_ret
        exact ⟨rfl, kz⟩
      · have f1 := back_signed ha hb h0
        have f2 := back_plain ha hb h0
        have f3 := rest_less (a := a) hb h0
        by_cases hs : a = 2147483648 ∧ b = 4294967295
        · obtain ⟨rfl, rfl⟩ := hs
          rw [show quotL 42 2147483648 4294967295 = 2147483648 by kernel_rfl, show quotL 44 2147483648 4294967295 = 0 by kernel_rfl] at o
          generalize quotL 43 2147483648 4294967295 = q1 at *
          generalize quotL 45 2147483648 4294967295 = q3 at *
          have c0 := o.c0
          have c1 := o.c1
          have c2 := o.c2
          have c3 := o.c3
          clear f1
          go_wp2_with fail
          go_ret
          exact ⟨rfl, kz⟩
        · generalize quotL 42 a b = q0 at *
          generalize quotL 43 a b = q1 at *
          generalize quotL 44 a b = q2 at *
          generalize quotL 45 a b = q3 at *
          have c0 := o.c0
          have c1 := o.c1
          have c2 := o.c2
          have c3 := o.c3
          by_cases ha2 : a = 2147483648
          · have hb2 : ¬ b = 4294967295 := fun e => hs ⟨ha2, e⟩
            clear hs
            go_wp2_with fail
            all_goals (go_ret; exact ⟨rfl, kz⟩)
          · clear hs
            go_wp2_with fail
            all_goals (go_ret; exact ⟨rfl, kz⟩)
end Go.Proofs.YtcddhlepkmbkcaaDoor
