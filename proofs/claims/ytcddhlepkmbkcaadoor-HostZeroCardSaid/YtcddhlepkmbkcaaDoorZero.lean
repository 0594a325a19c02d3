/- HostZero. -/
import Derived.Test.YtcddhlepkmbkcaaDoorG1
namespace Go.Proofs.YtcddhlepkmbkcaaDoor
open Go.RowKit
set_option linter.unusedVariables false
set_option linter.unusedSimpArgs false
set_option linter.unusedSectionVars false

/-- Words that write register 0 leave registers and memory. -/
def at0 (s : St) (pc : Int) : St := { s with pc := pc }
theorem zero_alu {s : St} {op a b i : Int} (hp : fitsL s.pc 4 = true) (hw : wordM s.m s.pc 4 = encL op 0 a b i) (hl : isL op 0 a b i = true) (ho : op = 1 ∨ 19 ≤ op ∧ op ≤ 45) (hpc : s.pc + 4 ≤ 4294967295) (h0 : 0 ≤ s.pc) :
    stepL s = (0, at0 s (s.pc + 4)) := by
  rw [step_word hp hw hl, doL_alu _ _ _ _ _ _ ho, setX_out (by decide), show (s.pc + 4) % 4294967296 = s.pc + 4 by omega]
  rfl
def zS (a b x y z : Int) : St := storeS (storeS (storeS (setS (setS newS 1 a) 2 b) 1024 4 x) 1028 4 y) 1032 4 z
theorem zS_run {a b x y z c i : Int} (hc : 0 ≤ c ∧ c ≤ 17) (hl1 : isL (28 + c) 0 1 2 0 = true) (hl2 : isL 19 0 1 0 i = true) (e1 : encL (28 + c) 0 1 2 0 = x) (e2 : encL 19 0 1 0 i = y) (e3 : encL 3 0 0 0 8 = z) :
    runL 3 0 (zS a b x y z) = (0, 3, at0 (zS a b x y z) 1040) := by
  have bx : 0 ≤ x ∧ x ≤ 4294967295 := e1 ▸ enc_bd hl1
  have by_ : 0 ≤ y ∧ y ≤ 4294967295 := e2 ▸ enc_bd hl2
  have hl3 : isL 3 0 0 0 8 = true := by decide
  have bz : 0 ≤ z ∧ z ≤ 4294967295 := e3 ▸ enc_bd hl3
  have m1 : wordM (zS a b x y z).m 1024 4 = x := by
    unfold zS storeS
    rw [load_other (by omega), load_other (by omega)]
    exact load_store bx
  have m2 : wordM (zS a b x y z).m 1028 4 = y := by
    unfold zS storeS
    rw [load_other (by omega)]
    exact load_store by_
  have m3 : wordM (zS a b x y z).m 1032 4 = z := load_store bz
  have s1 : stepL (zS a b x y z) = (0, at0 (zS a b x y z) 1028) := zero_alu (by rfl) (m1.trans e1.symm) hl1 (by omega) (show (1024 : Int) + 4 ≤ 4294967295 by decide) (show (0 : Int) ≤ 1024 by decide)
  have s2 : stepL (at0 (zS a b x y z) 1028) = (0, at0 (zS a b x y z) 1032) := zero_alu (s := at0 (zS a b x y z) 1028) (by rfl) (m2.trans e2.symm) hl2 (by omega) (show (1028 : Int) + 4 ≤ 4294967295 by decide) (show (0 : Int) ≤ 1028 by decide)
  have s3 : stepL (at0 (zS a b x y z) 1032) = (0, at0 (zS a b x y z) 1040) := by
    rw [step_word (s := at0 (zS a b x y z) 1032) (by rfl) (m3.trans e3.symm) hl3, doL_3, show (at0 (zS a b x y z) 1032).pc = 1032 from rfl, jump_yes (show (1032 + 8 : Int) % 4294967296 % 4 = 0 by decide), setX_out (by decide)]
    rfl
  rw [runL_go (by rw [s1]), s1, runL_go (by rw [s2]), s2, runL_go (by rw [s3]), s3]
  rfl
theorem op_ok (c : Int) (h0 : 0 ≤ c) (h1 : c ≤ 17) : isL (28 + c) 0 1 2 0 = true := by
  rcases (by omega : c = 0 ∨ c = 1 ∨ c = 2 ∨ c = 3 ∨ c = 4 ∨ c = 5 ∨ c = 6 ∨ c = 7 ∨ c = 8 ∨ c = 9 ∨ c = 10 ∨ c = 11 ∨ c = 12 ∨ c = 13 ∨ c = 14 ∨ c = 15 ∨ c = 16 ∨ c = 17) with rfl | rfl | rfl | rfl | rfl | rfl | rfl | rfl | rfl | rfl | rfl | rfl | rfl | rfl | rfl | rfl | rfl | rfl <;> decide
theorem imm_ok (i : Int) : isL 19 0 1 0 (wrap32 (i * 1048576) / 1048576) = true := by
  have h := bd32 (i * 1048576)
  exact isL_of 19 (formN 19) (by decide) (by decide) rfl 0 1 0 _ (by decide) (by decide) (by decide) (by show (-2048 : Int) ≤ _; omega) (by show _ ≤ (2047 : Int); omega) (by show _ % ((0 : Int) + 1) = 0; omega) 19 rfl
set_option maxHeartbeats 1000000 in
set_option maxRecDepth 20000 in
theorem zero_walk (o a b i : Int) (ho : 0 ≤ o ∧ o ≤ 255) (ha : 0 ≤ a ∧ a ≤ 4294967295) (hb : 0 ≤ b ∧ b ≤ 4294967295) (hi : -2147483648 ≤ i ∧ i ≤ 2147483647) (w : World) (tabs : Tabs w) :
    Calls Tryd.prog 9 #[.int .u8 o, .int .u32 a, .int .u32 b, .int .i32 i] w fun e w' => e = .returned (.bool true) ∧ Below w.heap.size w w' := by
  have hl1 := op_ok (o % 18) (by omega) (by omega)
  have hl2 := imm_ok i
  have bx := enc_bd hl1
  have by_ := enc_bd hl2
  have hr := zS_run (a := a) (b := b) (c := o % 18) (i := wrap32 (i * 1048576) / 1048576) (by omega) hl1 hl2 rfl rfl rfl
  go_enter Tryd.func9, Tryd.ntmps9
  go_wp2_with fail
  refine (known_any _ tabs).mono ?_
  rintro e w0 ⟨rfl, b0⟩
  have tabs0 := tabs.below b0
  go_wp2_with fail
  refine (aNew _ tabs0).mono ?_
  rintro e w1 ⟨rfl, A⟩
  go_wp2_with fail
  refine (aSetX A 1 a ha rfl).mono ?_
  rintro e w2 ⟨rfl, A⟩
  go_wp2_with fail
  refine (aSetX A 2 b hb rfl).mono ?_
  rintro e w3 ⟨rfl, A⟩
  go_wp2_with fail
  refine (aSetX A 0 5 (by decide) (by unfold setS; rw [setX_out (by decide)])).mono ?_
  rintro e w4 ⟨rfl, A⟩
  go_wp2_with fail
  refine (aSetX A 32 5 (by decide) (by unfold setS; rw [setX_out (by decide)])).mono ?_
  rintro e w5 ⟨rfl, A⟩
  go_wp2_with fail
  refine (aSetX A (-1) 5 (by decide) (by unfold setS; rw [setX_out (by decide)])).mono ?_
  rintro e w6 ⟨rfl, A⟩
  go_wp2_with fail
  refine (aWord A (28 + o % 18) 0 1 2 0 _ hl1 rfl).mono ?_
  rintro e w7 ⟨rfl, A⟩
  go_wp2_with fail
  refine (aStore A 1024 4 _ (by decide) bx (by decide)).mono ?_
  rintro e w8 ⟨rfl, A⟩
  go_wp2_with fail
  refine (aWord A 19 0 1 0 _ _ hl2 rfl).mono ?_
  rintro e w9 ⟨rfl, A⟩
  go_wp2_with fail
  refine (aStore A 1028 4 _ (by decide) by_ (by decide)).mono ?_
  rintro e w10 ⟨rfl, A⟩
  go_wp2_with fail
  refine (aWord A 3 0 0 0 8 _ (by decide) rfl).mono ?_
  rintro e w11 ⟨rfl, A⟩
  go_wp2_with fail
  refine (aStore A 1032 4 _ (by decide) (enc_bd (by decide)) (by decide)).mono ?_
  rintro e w12 ⟨rfl, A⟩
  go_wp2_with fail
  refine (aRun 3 (by decide) A hr).mono ?_
  rintro e w13 ⟨rfl, A⟩
  go_wp2_with fail
  refine (aX A 0 0 rfl).mono ?_
  rintro e w14 ⟨rfl, A⟩
  go_wp2_with fail
  refine (aX A 32 0 rfl).mono ?_
  rintro e w15 ⟨rfl, A⟩
  go_wp2_with fail
  refine (aX A (-1) 0 rfl).mono ?_
  rintro e w16 ⟨rfl, A⟩
  go_wp2_with fail
  refine (aX A 1 a (by simp [getX, at0, zS, storeS, setS, setX])).mono ?_
  rintro e w17 ⟨rfl, A⟩
  go_wp2_with fail
  refine (aX A 2 b (by simp [getX, at0, zS, storeS, setS, setX])).mono ?_
  rintro e w18 ⟨rfl, A⟩
  go_wp2_with fail
  refine (aPC A 1040 rfl).mono ?_
  rintro e w19 ⟨rfl, A⟩
  go_wp2_with fail
  go_ret
  exact ⟨rfl, b0.trans (A.done.mono b0.size)⟩
end Go.Proofs.YtcddhlepkmbkcaaDoor
