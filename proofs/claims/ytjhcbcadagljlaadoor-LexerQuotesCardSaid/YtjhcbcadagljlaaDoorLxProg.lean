/-
  Layer 5: the contracts of the program's All and Quote.
-/
import Derived.Test.YtjhcbcadagljlaaDoorLxG18
namespace Go.Proofs.YtjhcbcadagljlaaDoor.Lx
open Go.RowKit

theorem prog_all {s : ByteArray} {l : List Int} (hs : ch s = l) (hn : l.length ≤ 100000) (w : World) (het : ET w) : Calls Tryd.prog 7 #[.string s] w (APost w (allT l) (allF l)) := gall_any hs hn w het
theorem prog_quote {s : ByteArray} {l : List Int} (hs : ch s = l) (hn : l.length ≤ 10000) (w : World) : Calls Tryd.prog 11 #[.string s] w (VPost w (.string (bytesOf (quoteL l)))) := gquote_any hs hn w
end Go.Proofs.YtjhcbcadagljlaaDoor.Lx
