/- ParseNumber, the reference's. -/
import Derived.Test.YtmglolpiekbnpaaDoorNumPrs
import Derived.Test.YtmglolpiekbnpaaDoorParseSpec
import Derived.Test.YtmglolpiekbnpaaDoorNumSpecMake
import Derived.WalkKit
import Derived.WalkSpells
import Derived.WalkLawsBesides
import Derived.Lib.Hide
import Derived.RegionTactic
namespace Go.Proofs.YtmglolpiekbnpaaDoor
set_option maxRecDepth 100000
open Go.RowKit
set_option linter.unusedVariables false

theorem getS (s : ByteArray) (k : Nat) (hk : k < s.size) : s.data.toList[k]? = some (s[k]'hk) := by
  rw [List.getElem?_eq_getElem (show k < s.data.toList.length from hk)]; rfl
theorem NoSlash.zero (l : List UInt8) : NoSlash l 0 := fun _ h => absurd h (Nat.not_lt_zero _)
theorem NoSlash.next {s : ByteArray} {k : Nat} (h : NoSlash s.data.toList k) (hk : k < s.size) (hc : (s[k]'hk).toNat ≠ 47) : NoSlash s.data.toList (k + 1) := by
  intro j hj
  by_cases e : j = k
  · subst e
    rw [getS s j hk]
    intro h'
    exact hc (by have := Option.some.inj h'; rw [this]; rfl)
  · exact h j (by omega)
theorem slash_end {s : ByteArray} {k : Nat} (h : NoSlash s.data.toList k) (hk : s.size ≤ k) : slashCut s.data.toList = none :=
  slash_none _ (fun j hj => h j (by rw [size_l] at hj; omega))
theorem slash_hit {s : ByteArray} {k : Nat} (h : NoSlash s.data.toList k) (hk : k < s.size) (hc : (s[k]'hk).toNat = 47) : slashCut s.data.toList = some (s.data.toList.take k, s.data.toList.drop (k + 1)) :=
  slash_at _ k h (by rw [getS s k hk]; congr 1; exact UInt8.toNat_inj.1 (by rw [hc]; rfl))
theorem ext_take (s : ByteArray) (k : Nat) : (s.extract 0 k).data.toList = s.data.toList.take k := by rw [Lib.extract_data]; simp
theorem ext_drop (s : ByteArray) (k : Nat) : (s.extract k s.size).data.toList = s.data.toList.drop k := by
  rw [Lib.extract_data]; apply List.take_of_length_le; simp
theorem mkI_eta (n d : Int) : (⟨(mkI n d).n, (mkI n d).d, ⟨#[]⟩⟩ : It) = mkI n d := It.ext' rfl rfl (mkI_t n d).symm

end Go.Proofs.YtmglolpiekbnpaaDoor
