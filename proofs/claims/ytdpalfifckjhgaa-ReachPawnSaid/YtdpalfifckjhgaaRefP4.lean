/- What the document's plain Check of layer 3 comes to, whole. -/
import Derived.Test.YtdpalfifckjhgaaRefP3
namespace Go.Proofs.Ytdpalfifckjhgaa
open Go.RowKit Go.Shelf
open M (S)

end Go.Proofs.Ytdpalfifckjhgaa
