import Derived.Test.YtcdoidnfdkodoaaGreatDoorS02
import Derived.Test.YtcdoidnfdkodoaaGreatDoorChecked
import Derived.Deep.MidRow
import Derived.Deep.WholeRow
import Derived.BigQuiet
import Derived.Deep.QuietTactic
import Derived.Deep.OwnRows
import Derived.ChangeKeysEq
namespace Go.Proofs.YtcdoidnfdkodoaaGreatDoor
open Go.RowKit
set_option linter.unusedVariables false
set_option linter.unusedSimpArgs false
set_option linter.unusedSectionVars false
theorem hid {p : Prop} (h : p) : RowKit.Hid p := h
abbrev mp (B : Nat) : Value := .pointer (some ⟨B, 0, none⟩)
abbrev PAt (w : World) (B : Nat) (m : Mm) : Prop := MAt 104 w B m
set_option maxRecDepth 8000 in
theorem cutR (B : Nat) (p n : Nat) (h0 : p < 64) (hle : p + n ≤ 64) (W : World) : (Instr.sliceAt 80 (.pointer (some ⟨B, 0, none⟩)) (some (.int .i64 (p : Int))) (some (.int .i64 ((p : Int) + n))) none).run Tryz.prog W = .ok (.slice (some ⟨B, p, none⟩) n (64 - p)) W := by
  have hl : Tryz.prog.arrayLen 80 = 64 := by kernel_rfl
  have hs : (sizeOf (Tryz.prog.elem 80)).run Tryz.prog W = .ok 1 W := by kernel_rfl
  rw [run_sliceAt_array_lh W _ _ (by kernel_rfl) _ _ _ _ (by omega) (by omega) (by rw [hl]; omega), hs, hl]
  have e : ((p : Int)).toNat = p := by omega
  have e2 : ((p : Int) + n).toNat = p + n := by omega
  simp only [Result.andThen, slicedAt, e, e2]
  rw [if_neg (by omega)]
  simp [Addr.add]
  intro h; omega
set_option maxRecDepth 8000 in
theorem cutB (k : IntKind) (B a n : Nat) (hle : a + n ≤ 16384) (h0 : a < 16384) (W : World) : (Instr.sliceAt 81 (.pointer (some ⟨B, 64, none⟩)) (some (.int k (a : Int))) (some (.int .i64 ((a : Int) + n))) none).run Tryz.prog W = .ok (.slice (some ⟨B, 64 + a, none⟩) n (16384 - a)) W := by
  have hl : Tryz.prog.arrayLen 81 = 16384 := by kernel_rfl
  have hs : (sizeOf (Tryz.prog.elem 81)).run Tryz.prog W = .ok 1 W := by kernel_rfl
  rw [run_sliceAt_array_lh W _ _ (by kernel_rfl) _ _ _ _ (by omega) (by omega) (by rw [hl]; omega), hs, hl]
  have e : ((a : Int)).toNat = a := by omega
  have e2 : ((a : Int) + n).toNat = a + n := by omega
  simp only [Result.andThen, slicedAt, e, e2]
  rw [if_neg (by omega)]
  simp [Addr.add]
set_option maxRecDepth 8000 in
theorem cutL (k : IntKind) (B a : Nat) (hle : a < 16384) (W : World) : (Instr.sliceAt 81 (.pointer (some ⟨B, 64, none⟩)) (some (.int k (a : Int))) none none).run Tryz.prog W = .ok (.slice (some ⟨B, 64 + a, none⟩) (16384 - a) (16384 - a)) W := by
  have hl : Tryz.prog.arrayLen 81 = 16384 := by kernel_rfl
  have hs : (sizeOf (Tryz.prog.elem 81)).run Tryz.prog W = .ok 1 W := by kernel_rfl
  rw [run_sliceAt_array_l W _ _ (by kernel_rfl) _ _ (by omega) (by rw [hl]; omega), hs, hl]
  have e : ((a : Int)).toNat = a := by omega
  simp only [Result.andThen, slicedAt, e]
  rw [if_neg (by omega)]
  simp [Addr.add]
theorem isPage_any (p : Int) (w : World) : Calls Tryz.prog 92 #[.int .i64 p] w fun e w' => e = .returned (.bool (decide (0 ≤ p) && decide (p < 64))) ∧ w = w' := by
  go_enter Tryz.func92, Tryz.ntmps92
  go_wp2
  all_goals (go_ret; refine ⟨ret_bool ?_, rfl⟩; first | (simp_all; done) | (simp_all; omega) | (simp; omega))
theorem areR_any (v : Int) (w : World) : Calls Tryz.prog 56 #[.int .i64 v] w fun e w' => e = .returned (.bool (areL v)) ∧ w = w' := by
  unfold areL
  go_enter Tryz.func56, Tryz.ntmps56
  go_wp2
  all_goals (go_ret; refine ⟨ret_bool ?_, rfl⟩; first | (simp_all; done) | (simp_all; omega) | (simp; omega))
def numL (n : Int) : Nat := if n = 1 then 1 else if n = 2 then 2 else 4
def singleL (v : Int) : Int := if v = 2 then 2 else if v = 4 then 4 else 1
theorem number_any (n : Int) (w : World) : Calls Tryz.prog 62 #[.int .i64 n] w fun e w' => e = .returned (.int .i64 (numL n : Nat)) ∧ w = w' := by
  go_enter Tryz.func62, Tryz.ntmps62
  go_wp2
  all_goals (go_ret; refine ⟨ret_int ?_, rfl⟩; first | (simp_all [numL]; done) | (simp_all [numL]; omega))
theorem single_any (n : Int) (w : World) : Calls Tryz.prog 189 #[.int .i64 n] w fun e w' => e = .returned (.int .i64 (singleL n)) ∧ w = w' := by
  go_enter Tryz.func189, Tryz.ntmps189
  go_wp2
  all_goals (go_ret; refine ⟨ret_int ?_, rfl⟩; first | (simp_all [singleL]; done) | (simp_all [singleL]; omega))
def rightsL (m : Mm) (p : Int) : Int := if 0 ≤ p ∧ p < 64 then m.r p.toNat else 0
def placeL (m : Mm) (a : Int) : Int := m.r (a / 256).toNat
theorem Rights_any {B : Nat} {m : Mm} {w : World} (h : PAt w B m) (p : Int) : Calls Tryz.prog 49 #[mp B, .int .i64 p] w fun e w' => e = .returned (.int .i64 (rightsL m p)) ∧ w = w' := by
  unfold rightsL
  have hi := fun w => isPage_any p w
  by_cases hp : 0 ≤ p ∧ p < 64
  · obtain ⟨k, rfl⟩ := Int.eq_ofNat_of_zero_le hp.1
    rw [if_pos hp, Int.toNat_natCast]
    have hc := h.r k (by omega)
    rw [decide_eq_true hp.1, decide_eq_true hp.2] at hi
    have hk : k < 64 := by omega
    clear hp
    go_enter Tryz.func49, Tryz.ntmps49
    go_wp2_with (first | (go_at_call 92; refine (hi _).mono ?_; rintro e w' ⟨rfl, rfl⟩))
    all_goals (go_ret; exact ⟨rfl, rfl⟩)
  · rw [if_neg hp]
    rw [show (decide (0 ≤ p) && decide (p < 64)) = false by simp; omega] at hi
    go_enter Tryz.func49, Tryz.ntmps49
    go_wp2_with (first | (go_at_call 92; refine (hi _).mono ?_; rintro e w' ⟨rfl, rfl⟩))
    all_goals (go_ret; exact ⟨rfl, rfl⟩)
theorem rightsAt_any {B : Nat} {m : Mm} {w : World} (h : PAt w B m) (ok : m.ok) (a : Int) (ha : 0 ≤ a ∧ a ≤ 4294967295) : Calls Tryz.prog 113 #[mp B, .int .u32 a] w fun e w' => e = .returned (.int .i64 (placeL m a)) ∧ w = w' := by
  have hr := Rights_any h (a / 256)
  have he : rightsL m (a / 256) = placeL m a := by
    unfold rightsL placeL
    split
    · rfl
    · rw [ok.out _ (by omega)]
  rw [he] at hr
  clear he
  go_enter Tryz.func113, Tryz.ntmps113
  go_wp2_with fail
  go_at_call 49
  refine hr.mono ?_
  rintro e w' ⟨rfl, rfl⟩
  go_wp2_with fail
  go_ret
  exact ⟨rfl, rfl⟩
end Go.Proofs.YtcdoidnfdkodoaaGreatDoor
namespace Go.Proofs.YtcdoidnfdkodoaaGreatDoor
open Go.RowKit
set_option linter.unusedVariables false
set_option linter.unusedSimpArgs false
set_option linter.unusedSectionVars false
set_option maxRecDepth 8000 in
theorem set_any {B : Nat} {m : Mm} {w : World} (h : PAt w B m) (p n : Nat) (hle : p + n ≤ 64) (v : Int) :
    Calls Tryz.prog 58 #[mp B, .int .i64 p, .int .i64 n, .int .i64 v] w fun e w' => e = .returned (.tuple #[]) ∧ PAt w' B (setR m p n v) ∧ But [B] w.heap.size w w' := by
  go_enter Tryz.func58, Tryz.ntmps58
  go_wp2_with fail
  go_loopw [10] (fun ii W => ∃ k : Nat, k ≤ n ∧ ii = .int .i64 k ∧ PAt W B (setR m p k v) ∧ But [B] w.heap.size w W) (fun ii _ => (n - intOf ii).toNat)
  case atStart => exact ⟨0, by omega, rfl, by rw [setR_zero]; exact h, But.refl _ _ _⟩
  case round =>
    obtain ⟨k, hk, rfl, hk2, kb⟩ := hrel
    by_cases hlt : k < n
    · have hc := hk2.r (p + k) (by omega)
      have hf := hk2.fr (p + k)
      have hx : PAt (wr.setCell ⟨B, p + k, none⟩ (.int .i64 v)) B (setR m p (k + 1) v) := hk2.set (p + k) _ _ fun cs c => c.set_r (p + k) (by omega) v _ (fun j => by
        dsimp only [setR]
        by_cases h1 : j = p + k
        · simp only [h1, ite_true]; split <;> first | rfl | (exfalso; omega)
        · simp only [h1, ite_false]; split <;> split <;> first | rfl | (exfalso; omega)) rfl
      have kx := kb.setCell (p := ⟨B, p + k, none⟩) (by simp) (.int .i64 v)
      go_wp2_with fail
      go_roundw
      case rel => exact ⟨k + 1, by omega, by go_num, hx, kx⟩
      case measure => simp [intOf]; omega
    · obtain rfl : k = n := by omega
      go_wp2_with fail
      exact bodyPost_end (v := .tuple #[]) (by simp [results, Tryz.results58, go_sem]) rfl ⟨rfl, hk2, kb⟩
set_option maxRecDepth 8000 in
theorem can_in {B : Nat} {m : Mm} {w : World} (h : PAt w B m) (p n : Nat) (q : Bool) (hp : p < 64) (hn : 0 < n) (hle : p + n ≤ 64) :
    Calls Tryz.prog 57 #[mp B, .int .i64 p, .int .i64 n, .bool q] w fun e w' => e = .returned (.bool (allL m q p n)) ∧ w = w' := by
  have hi := fun w => isPage_any p w
  rw [show (decide (0 ≤ (p : Int)) && decide ((p : Int) < 64)) = true by simp; omega] at hi
  have hcut := cutR B p n hp hle
  go_enter Tryz.func57, Tryz.ntmps57
  go_wp2_with (first | (go_at_call 92; refine (hi _).mono ?_; rintro e w' ⟨rfl, rfl⟩))
  go_loopw [33] (fun ii W => ∃ k : Nat, k ≤ n ∧ ii = .int .i64 k ∧ allL m q p k = true ∧ w = W) (fun ii _ => (n - intOf ii).toNat)
  case atStart => exact ⟨0, by omega, rfl, rfl, rfl⟩
  case round =>
    obtain ⟨k, hk, rfl, ha, rfl⟩ := hrel
    have ha' := hid ha
    clear ha
    by_cases hlt : k < n
    · have hc := h.r (p + k) (by omega)
      by_cases hz : q = (m.r (p + k) != 0)
      · have hg : Hid (allL m q p (k + 1) = true) := hid (by simp [allL, ha'.out, ← hz])
        have hz2 : (q == (m.r (p + k) != 0)) = true := by simp [← hz]
        clear hz
        go_wp2_with fail
        go_roundw
        case rel => exact ⟨k + 1, by omega, by go_num, hg.out, trivial⟩
        case measure => simp [intOf]; omega
      · have hg : Hid (allL m q p n = false) := hid (all_no k hlt hz)
        have hz2 : (q == (m.r (p + k) != 0)) = false := by simpa using hz
        clear hz
        go_wp2_with fail
        go_ret
        exact ⟨ret_bool hg.out.symm, rfl⟩
    · obtain rfl : k = n := by omega
      go_wp2_with fail
      go_ret
      exact ⟨ret_bool ha'.out.symm, rfl⟩
theorem can_out {B : Nat} {m : Mm} {w : World} (p n : Int) (q : Bool) (hp : -9223372036854775808 ≤ p ∧ p ≤ 9223372036854775807) (h : thereL p n = false) :
    Calls Tryz.prog 57 #[mp B, .int .i64 p, .int .i64 n, .bool q] w fun e w' => e = .returned (.bool false) ∧ w = w' := by
  have hi := fun w => isPage_any p w
  have hn : ¬ (0 ≤ p ∧ p < 64 ∧ 0 < n ∧ n ≤ 64 - p) := fun hh => by rw [there_iff.2 hh] at h; cases h
  clear h
  by_cases h1 : 0 ≤ p ∧ p < 64
  · rw [show (decide (0 ≤ p) && decide (p < 64)) = true by simp; omega] at hi
    by_cases h2 : 0 < n
    · have h3 : 64 - p < n := by omega
      go_enter Tryz.func57, Tryz.ntmps57
      go_wp2_with (first | (go_at_call 92; refine (hi _).mono ?_; rintro e w' ⟨rfl, rfl⟩))
      go_ret
      exact ⟨rfl, rfl⟩
    · go_enter Tryz.func57, Tryz.ntmps57
      go_wp2_with (first | (go_at_call 92; refine (hi _).mono ?_; rintro e w' ⟨rfl, rfl⟩))
      go_ret
      exact ⟨rfl, rfl⟩
  · rw [show (decide (0 ≤ p) && decide (p < 64)) = false by simp; omega] at hi
    go_enter Tryz.func57, Tryz.ntmps57
    go_wp2_with (first | (go_at_call 92; refine (hi _).mono ?_; rintro e w' ⟨rfl, rfl⟩))
    go_ret
    exact ⟨rfl, rfl⟩
abbrev I64 (p : Int) : Prop := -9223372036854775808 ≤ p ∧ p ≤ 9223372036854775807
theorem can_any {B : Nat} {m : Mm} {w : World} (h : PAt w B m) (p n : Int) (q : Bool) (hp : I64 p) :
    Calls Tryz.prog 57 #[mp B, .int .i64 p, .int .i64 n, .bool q] w fun e w' => e = .returned (.bool (canL m p n q)) ∧ w = w' := by
  unfold canL
  cases ht : thereL p n with
  | false => exact can_out (m := m) p n q hp ht
  | true =>
    obtain ⟨h1, h2, h3, h4⟩ := there_iff.1 ht
    obtain ⟨P, rfl⟩ := Int.eq_ofNat_of_zero_le h1
    obtain ⟨N, rfl⟩ := Int.eq_ofNat_of_zero_le (show 0 ≤ n by omega)
    rw [Bool.true_and, Int.toNat_natCast, Int.toNat_natCast]
    exact can_in h P N q (by omega) (by omega) (by omega)
theorem Map_any {B : Nat} {m : Mm} {w : World} (h : PAt w B m) (p n v : Int) (hp : I64 p) :
    Calls Tryz.prog 29 #[mp B, .int .i64 p, .int .i64 n, .int .i64 v] w fun e w' => e = .returned (.int .i64 (errM (mapE m p n v))) ∧ PAt w' B (mapS m p n v) ∧ But [B] w.heap.size w w' := by
  have hc := fun w (h : PAt w B m) => can_any h p n false hp
  have ha := fun w => areR_any v w
  unfold mapS mapE
  cases h1 : areL v with
  | false =>
    rw [h1] at ha
    rw [Bool.false_and, if_neg (by decide)]
    go_enter Tryz.func29, Tryz.ntmps29
    go_wp2_with (first | (go_at_call 56; refine (ha _).mono ?_; rintro e w' ⟨rfl, rfl⟩))
    go_ret
    exact ⟨rfl, h, But.refl _ _ _⟩
  | true =>
    rw [h1] at ha
    rw [Bool.true_and]
    cases h2 : canL m p n false with
    | false =>
      rw [h2] at hc
      rw [if_neg (by decide)]
      go_enter Tryz.func29, Tryz.ntmps29
      go_wp2_with (first | (go_at_call 56; refine (ha _).mono ?_; rintro e w' ⟨rfl, rfl⟩) | (go_at_call 57; refine (hc _ h).mono ?_; rintro e w' ⟨rfl, rfl⟩))
      go_ret
      exact ⟨rfl, h, But.refl _ _ _⟩
    | true =>
      rw [h2] at hc
      rw [if_pos rfl]
      obtain ⟨⟨p0, p1, p2, p3⟩, -⟩ := can_iff.1 h2
      obtain ⟨P, rfl⟩ := Int.eq_ofNat_of_zero_le p0
      obtain ⟨N, rfl⟩ := Int.eq_ofNat_of_zero_le (show 0 ≤ n by omega)
      have hs := set_any h P N (by omega) v
      clear h1 h2
      go_enter Tryz.func29, Tryz.ntmps29
      go_wp2_with (first | (go_at_call 56; refine (ha _).mono ?_; rintro e w' ⟨rfl, rfl⟩) | (go_at_call 57; refine (hc _ h).mono ?_; rintro e w' ⟨rfl, rfl⟩))
      go_at_call 58
      refine hs.mono ?_
      rintro e w' ⟨rfl, hx, kx⟩
      go_wp2_with fail
      go_ret
      exact ⟨rfl, hx, kx⟩
end Go.Proofs.YtcdoidnfdkodoaaGreatDoor
namespace Go.Proofs.YtcdoidnfdkodoaaGreatDoor
open Go.RowKit
set_option linter.unusedVariables false
set_option linter.unusedSimpArgs false
set_option linter.unusedSectionVars false
def allK (k : IntKind) : List Value → Bool
  | [] => true
  | v :: l => (match v with | .int k' n => k' == k && n == 0 | _ => false) && allK k l
theorem allK_at {k : IntKind} : ∀ {l : List Value}, allK k l = true → ∀ i, i < l.length → l[i]? = some (.int k 0)
  | [], _, i, hi => by simp at hi
  | v :: l, h, i, hi => by
    unfold allK at h
    rw [Bool.and_eq_true] at h
    cases i with
    | zero =>
      cases v <;> simp at h
      simp [h.1.1, h.1.2]
    | succ i => simpa using allK_at h.2 i (by simpa using hi)
def chkM : Option Value → Bool
  | some (.agg cs) => cs.size == 16448 && (allK .i64 (cs.toList.take 64) && allK .u8 (cs.toList.drop 64))
  | _ => false
theorem chk_mem {cs : Array Value} (h : chkM (some (.agg cs)) = true) : MC cs Mm.new := by
  unfold chkM at h
  simp only [Bool.and_eq_true, beq_iff_eq] at h
  obtain ⟨h1, h2, h3⟩ := h
  refine ⟨h1, fun i hi => ?_, fun i hi => ?_⟩
  · have := allK_at h2 i (by simp [h1]; omega)
    simpa [List.getElem?_take, hi, Mm.new] using this
  · have := allK_at h3 i (by simp [h1]; omega)
    simpa [List.getElem?_drop, Mm.new] using this
def zcells (P : Program) (t : TypeId) : Array Value := match (P.info? t).bind (·.zero) with | some (.agg cs) => cs | _ => #[]
theorem chk_page : chkM (some (.agg (zcells Tryz.prog 104))) = true := by kernel_rfl
theorem zero_page : ∃ Z : Array Value, (∀ w, (zeroValue 104).run Tryz.prog w = .ok (.agg Z) w) ∧ MC Z Mm.new ∧ Z ≠ #[] :=
  ⟨zcells Tryz.prog 104, fun w => by kernel_rfl, chk_mem chk_page, fun h => by have := (chk_mem chk_page).size; rw [h] at this; cases this⟩
theorem New_any (w : World) : Calls Tryz.prog 28 #[] w fun e w' => e = .returned (mp w.heap.size) ∧ PAt w' w.heap.size Mm.new ∧ Below w.heap.size w w' := by
  obtain ⟨Z, hz, hc, hne⟩ := zero_page
  have hx : PAt (w.alloc (.cells Z 104)) w.heap.size Mm.new := ⟨_, alloc_new _ _, hc⟩
  have kx : Below w.heap.size w (w.alloc (.cells Z 104)) := (Below.refl _ _).alloc (Nat.le_refl _) _
  clear hc
  go_enter Tryz.func28, Tryz.ntmps28
  go_wp2_with fail
  go_ret
  exact ⟨rfl, hx, kx⟩
theorem mapped_nat {B : Nat} {m : Mm} {w : World} (h : PAt w B m) (ok : m.ok) (a : Int) (ha : 0 ≤ a ∧ a ≤ 4294967295) (n : Nat) (hn : n ≤ 9223372036854775807) :
    Calls Tryz.prog 64 #[mp B, .int .u32 a, .int .i64 n] w fun e w' => e = .returned (.int .i64 (mappedL m a n : Nat)) ∧ w = w' := by
  go_enter Tryz.func64, Tryz.ntmps64
  go_wp2_with fail
  go_loopw [7] (fun ii W => ∃ k : Nat, k ≤ n ∧ ii = .int .i64 k ∧ W = w ∧ mappedL m a k = k) (fun ii _ => (n - intOf ii).toNat)
  case atStart => exact ⟨0, by omega, rfl, rfl, rfl⟩
  case round =>
    obtain ⟨k, hk, rfl, rfl, hm⟩ := hrel
    have hm' := hid hm
    clear hm
    by_cases hlt : k < n
    · have hr := rightsAt_any h ok ((a + k) % 4294967296) (by omega)
      cases hz : decide (placeL m ((a + k) % 4294967296) = 0) with
      | true =>
        rw [decide_eq_true_eq] at hz
        have hs : Hid (mappedL m a n = k) := hid (mapped_stop hm'.out hz n hk)
        rw [hz] at hr
        clear hz
        go_wp2_with fail
        go_at_call 113
        refine hr.mono ?_
        rintro e w' ⟨rfl, rfl⟩
        go_wp2_with fail
        go_ret
        exact ⟨ret_int (by rw [hs.out]), rfl⟩
      | false =>
        rw [decide_eq_false_iff_not] at hz
        have hs : Hid (mappedL m a (k + 1) = k + 1) := hid (mapped_go hm'.out hz)
        generalize placeL m ((a + k) % 4294967296) = y at *
        go_wp2_with fail
        go_at_call 113
        refine hr.mono ?_
        rintro e w' ⟨rfl, rfl⟩
        go_wp2_with fail
        go_roundw
        case rel => exact ⟨k + 1, by omega, by go_num, trivial, hs.out⟩
        case measure => simp [intOf]; omega
    · obtain rfl : k = n := by omega
      go_wp2_with fail
      go_ret
      exact ⟨ret_int (by rw [hm'.out]), rfl⟩
theorem addN (b o j : Nat) : (⟨b, o, none⟩ : Addr).add j = ⟨b, o + j, none⟩ := by unfold Addr.add; split <;> simp_all
theorem row_new (w : World) (zs : List Int) (hz : ∀ z ∈ zs, 0 ≤ z ∧ z ≤ 255) (t : TypeId) : Row8 (w.alloc (.cells (zs.map (Value.int .u8)).toArray t)) (some ⟨w.heap.size, 0, none⟩) zs.length zs := by
  refine ⟨rfl, hz, .inr ⟨w.heap.size, 0, rfl, by simp, fun i hi => ?_⟩⟩
  rw [World.cell?_alloc_new]
  simp [List.getD_eq_getElem?_getD, hi]
end Go.Proofs.YtcdoidnfdkodoaaGreatDoor
