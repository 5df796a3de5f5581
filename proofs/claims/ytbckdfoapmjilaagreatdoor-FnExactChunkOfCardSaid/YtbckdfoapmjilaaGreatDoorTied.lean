/-
  What the listed variables hold gives utf8's two tables as the library's contracts ask them.
-/
import Derived.Test.YtbckdfoapmjilaaGreatDoorRows
import Derived.Test.YtbckdfoapmjilaaGreatDoorNmI
import Derived.Lib.LaidU8T
import Derived.PinnedBridge
import Derived.LaidMore
namespace Go.Proofs.YtbckdfoapmjilaaGreatDoor.Nam
open Go.RowKit Go.Lib Go.Shelf
theorem u8T : U8Types Tryz.prog Go.Proofs.YtbckdfoapmjilaaGreatDoor.ShT.lays237_ren := { Go.Proofs.YtbckdfoapmjilaaGreatDoor.ShT.lays237 with }
theorem u8X : U8Extra Tryz.prog Go.Proofs.YtbckdfoapmjilaaGreatDoor.ShT.lays237_ren := ⟨by kernel_rfl, by kernel_rfl, by kernel_rfl, by kernel_rfl, by kernel_rfl, by kernel_rfl, by kernel_rfl⟩
theorem accept_eq : (Rows.laid_unicode_utf8_acceptRanges : DataW Unit) = acceptData := by kernel_rfl
theorem first_eq : Rows.laid_unicode_utf8_first = firstData := Pinned.utf8First_eq
theorem tabs_of_laid {W : World} (hL : laidMetH Tryz.prog [("unicode/utf8.acceptRanges", Rows.laid_unicode_utf8_acceptRanges), ("unicode/utf8.first", Rows.laid_unicode_utf8_first)] W) : Tabs W := by
  rw [MakeChecks.laidMetH_plain _ _ _ (by kernel_rfl)] at hL
  exact utf8Tabs_of_readsT u8T u8X (first_eq ▸ Lib.laidMet.reads hL (.tail _ (.head _))) (accept_eq ▸ Lib.laidMet.reads hL (.head _))
end Go.Proofs.YtbckdfoapmjilaaGreatDoor.Nam
