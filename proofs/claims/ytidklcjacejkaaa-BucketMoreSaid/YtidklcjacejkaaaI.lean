/-
  A definition: a bucket as a value. Conditions: none.
-/
import Derived.Test.YtidklcjacejkaaaK7
namespace Go.Proofs.Ytidklcjacejkaaa
open Go.RowKit

/-- A bucket. -/
def bk (r u l t : Int) : Value := .agg #[.int .i64 r, .int .i64 u, .int .i64 l, .int .i64 t]
end Go.Proofs.Ytidklcjacejkaaa
