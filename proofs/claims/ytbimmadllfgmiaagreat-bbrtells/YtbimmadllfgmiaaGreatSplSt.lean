/-
  Samples (api.Sample), as numbers. No program is spoken of. Conditions: none.
-/
import Derived.Test.YtbimmadllfgmiaaGreatNum
namespace Go.Proofs.YtbimmadllfgmiaaGreat
open Go.RowKit
set_option maxRecDepth 100000

/-- A sample: now, delivered, prior, interval, round trip, acknowledged, lost, under way; limited. -/
structure Spl where
  n : Int
  d : Int
  p : Int
  i : Int
  r : Int
  a : Int
  o : Int
  f : Int
  l : Bool
abbrev Spl.c (x : Spl) : Array Value := #[.int .u64 x.n, .int .u64 x.d, .int .u64 x.p, .int .u64 x.i, .int .u64 x.r, .int .u64 x.a, .int .u64 x.o, .int .u64 x.f, .bool x.l]
abbrev Spl.v (x : Spl) : Value := .agg #[.int .u64 x.n, .int .u64 x.d, .int .u64 x.p, .int .u64 x.i, .int .u64 x.r, .int .u64 x.a, .int .u64 x.o, .int .u64 x.f, .bool x.l]
structure Spl.Fit (x : Spl) : Prop where
  n : Num x.n
  d : Num x.d
  p : Num x.p
  i : Num x.i
  r : Num x.r
  a : Num x.a
  o : Num x.o
  f : Num x.f
end Go.Proofs.YtbimmadllfgmiaaGreat
