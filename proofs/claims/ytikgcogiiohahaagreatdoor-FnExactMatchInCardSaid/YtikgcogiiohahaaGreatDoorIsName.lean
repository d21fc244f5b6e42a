/- Both functions IsName, against one plain function. -/
import Derived.Test.YtikgcogiiohahaaGreatDoorRows
import Derived.Test.YtikgcogiiohahaaGreatDoorTextMath
import Derived.WalkKit
import Derived.Lib.OthersKept
namespace Go.Proofs.YtikgcogiiohahaaGreatDoor
set_option maxRecDepth 100000
open Go.RowKit Go.Lib

theorem l1In_any (x a b : Int) (w : World) : Calls Tryz.prog 62 #[.int .i64 x, .int .i64 a, .int .i64 b] w fun e w' => e = .returned (.bool (decide (a ≤ x ∧ x ≤ b))) ∧ w = w' := by
  by_cases h1 : a ≤ x
  all_goals
    by_cases h2 : x ≤ b
    all_goals
      go_enter Tryz.func62, Tryz.ntmps62
      go_wp2
      go_ret
      exact ⟨by simp [h1, h2], rfl⟩

theorem ret_bool {a b : Bool} (h : a = b) : Ending.returned (.bool a) = .returned (.bool b) := by rw [h]
theorem bad_name {s : ByteArray} {k : Nat} (hk : k < s.size) (h : (s[k].toNat : Int) < 33 ∨ 126 < (s[k].toNat : Int) ∨ ((s[k].toNat : Int) == 96) = true) : Ending.returned (.bool false) = Ending.returned (.bool (nameL s.data.toList)) := by
  rw [nameL_bad hk (okB_no (by simpa using h))]
theorem good_byte {c : UInt8} (h1 : 33 ≤ (c.toNat : Int)) (h2 : (c.toNat : Int) ≤ 126) (h3 : ((c.toNat : Int) == 96) = false) : okB c = true := okB_yes h1 h2 (by simpa using h3)

end Go.Proofs.YtikgcogiiohahaaGreatDoor
