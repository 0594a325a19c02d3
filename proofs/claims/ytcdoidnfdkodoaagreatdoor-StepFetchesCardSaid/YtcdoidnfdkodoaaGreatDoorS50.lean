import Derived.Test.YtcdoidnfdkodoaaGreatDoorS02
import Derived.Test.YtcdoidnfdkodoaaGreatDoorS45
import Derived.Test.YtcdoidnfdkodoaaGreatDoorS46
import Derived.Test.YtcdoidnfdkodoaaGreatDoorS47
import Derived.Test.YtcdoidnfdkodoaaGreatDoorS48
import Derived.Test.YtcdoidnfdkodoaaGreatDoorS49
namespace Go.Proofs.YtcdoidnfdkodoaaGreatDoor
open Go.RowKit
theorem fetches_walk (w : World) (tabs : Tb w) (a0 a1 : Int) (w0 : 0 ≤ a0 ∧ a0 ≤ 255) (w1 : 0 ≤ a1 ∧ a1 ≤ 255) : Calls Tryz.prog 14 #[.int .u8 a0, .int .u8 a1] w fun e w' => e = .returned (.bool true) ∧ Below w.heap.size w w' := by
  rcases (by omega : a0 % 5 = 0 ∨ a0 % 5 = 1 ∨ a0 % 5 = 2 ∨ a0 % 5 = 3 ∨ a0 % 5 = 4) with h0 | h0 | h0 | h0 | h0
  · rcases (by omega : a1 % 8 = 0 ∨ a1 % 8 = 1 ∨ a1 % 8 = 2 ∨ a1 % 8 = 3 ∨ a1 % 8 = 4 ∨ a1 % 8 = 5 ∨ a1 % 8 = 6 ∨ a1 % 8 = 7) with h1 | h1 | h1 | h1 | h1 | h1 | h1 | h1
    · exact fet_0_0 w tabs a0 a1 w0 w1 h0 h1
    · exact fet_0_1 w tabs a0 a1 w0 w1 h0 h1
    · exact fet_0_2 w tabs a0 a1 w0 w1 h0 h1
    · exact fet_0_3 w tabs a0 a1 w0 w1 h0 h1
    · exact fet_0_4 w tabs a0 a1 w0 w1 h0 h1
    · exact fet_0_5 w tabs a0 a1 w0 w1 h0 h1
    · exact fet_0_6 w tabs a0 a1 w0 w1 h0 h1
    · exact fet_0_7 w tabs a0 a1 w0 w1 h0 h1
  · rcases (by omega : a1 % 8 = 0 ∨ a1 % 8 = 1 ∨ a1 % 8 = 2 ∨ a1 % 8 = 3 ∨ a1 % 8 = 4 ∨ a1 % 8 = 5 ∨ a1 % 8 = 6 ∨ a1 % 8 = 7) with h1 | h1 | h1 | h1 | h1 | h1 | h1 | h1
    · exact fet_1_0 w tabs a0 a1 w0 w1 h0 h1
    · exact fet_1_1 w tabs a0 a1 w0 w1 h0 h1
    · exact fet_1_2 w tabs a0 a1 w0 w1 h0 h1
    · exact fet_1_3 w tabs a0 a1 w0 w1 h0 h1
    · exact fet_1_4 w tabs a0 a1 w0 w1 h0 h1
    · exact fet_1_5 w tabs a0 a1 w0 w1 h0 h1
    · exact fet_1_6 w tabs a0 a1 w0 w1 h0 h1
    · exact fet_1_7 w tabs a0 a1 w0 w1 h0 h1
  · rcases (by omega : a1 % 8 = 0 ∨ a1 % 8 = 1 ∨ a1 % 8 = 2 ∨ a1 % 8 = 3 ∨ a1 % 8 = 4 ∨ a1 % 8 = 5 ∨ a1 % 8 = 6 ∨ a1 % 8 = 7) with h1 | h1 | h1 | h1 | h1 | h1 | h1 | h1
    · exact fet_2_0 w tabs a0 a1 w0 w1 h0 h1
    · exact fet_2_1 w tabs a0 a1 w0 w1 h0 h1
    · exact fet_2_2 w tabs a0 a1 w0 w1 h0 h1
    · exact fet_2_3 w tabs a0 a1 w0 w1 h0 h1
    · exact fet_2_4 w tabs a0 a1 w0 w1 h0 h1
    · exact fet_2_5 w tabs a0 a1 w0 w1 h0 h1
    · exact fet_2_6 w tabs a0 a1 w0 w1 h0 h1
    · exact fet_2_7 w tabs a0 a1 w0 w1 h0 h1
  · rcases (by omega : a1 % 8 = 0 ∨ a1 % 8 = 1 ∨ a1 % 8 = 2 ∨ a1 % 8 = 3 ∨ a1 % 8 = 4 ∨ a1 % 8 = 5 ∨ a1 % 8 = 6 ∨ a1 % 8 = 7) with h1 | h1 | h1 | h1 | h1 | h1 | h1 | h1
    · exact fet_3_0 w tabs a0 a1 w0 w1 h0 h1
    · exact fet_3_1 w tabs a0 a1 w0 w1 h0 h1
    · exact fet_3_2 w tabs a0 a1 w0 w1 h0 h1
    · exact fet_3_3 w tabs a0 a1 w0 w1 h0 h1
    · exact fet_3_4 w tabs a0 a1 w0 w1 h0 h1
    · exact fet_3_5 w tabs a0 a1 w0 w1 h0 h1
    · exact fet_3_6 w tabs a0 a1 w0 w1 h0 h1
    · exact fet_3_7 w tabs a0 a1 w0 w1 h0 h1
  · rcases (by omega : a1 % 8 = 0 ∨ a1 % 8 = 1 ∨ a1 % 8 = 2 ∨ a1 % 8 = 3 ∨ a1 % 8 = 4 ∨ a1 % 8 = 5 ∨ a1 % 8 = 6 ∨ a1 % 8 = 7) with h1 | h1 | h1 | h1 | h1 | h1 | h1 | h1
    · exact fet_4_0 w tabs a0 a1 w0 w1 h0 h1
    · exact fet_4_1 w tabs a0 a1 w0 w1 h0 h1
    · exact fet_4_2 w tabs a0 a1 w0 w1 h0 h1
    · exact fet_4_3 w tabs a0 a1 w0 w1 h0 h1
    · exact fet_4_4 w tabs a0 a1 w0 w1 h0 h1
    · exact fet_4_5 w tabs a0 a1 w0 w1 h0 h1
    · exact fet_4_6 w tabs a0 a1 w0 w1 h0 h1
    · exact fet_4_7 w tabs a0 a1 w0 w1 h0 h1
end Go.Proofs.YtcdoidnfdkodoaaGreatDoor
