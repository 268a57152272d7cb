/- What positions are in memory, and what stays of them. -/
import Derived.Test.YtdpalfifckjhgaaLive3
namespace Go.Proofs.Ytdpalfifckjhgaa
open Go.RowKit Go.Shelf
open M (S)

end Go.Proofs.Ytdpalfifckjhgaa
