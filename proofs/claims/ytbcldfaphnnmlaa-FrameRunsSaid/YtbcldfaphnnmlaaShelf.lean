/- The shelf: nothing is wanted of it. -/
import Derived.Test.YtbcldfaphnnmlaaProg
namespace Go.Shelf
end Go.Shelf
