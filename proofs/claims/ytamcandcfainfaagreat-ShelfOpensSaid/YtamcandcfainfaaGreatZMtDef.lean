/- The keeper's state and its commands as plain data, and as bytes. -/
import Derived.Test.YtamcandcfainfaaGreatMX
import Derived.Test.YtamcandcfainfaaGreatZSn
namespace Go.Proofs.YtamcandcfainfaaGreat
open Go.RowKit
/-- A keeper's state: the time, the nodes (rising), the last Id, the sessions. -/
structure MS where
  now : Nat := 0
  nodes : List Nd := []
  last : Nat := 0
  ses : List Sn := []
/-- A command. -/
structure MC where
  kind : Nat := 0
  key : ByteArray := ⟨#[]⟩
  val : List Nat := []
  want : Nat := 0
  ses : Nat := 0
  ticks : Nat := 0
/-- A command that fits its fields. -/
structure MCOk (c : MC) : Prop where
  kind : c.kind < 256
  key : c.key.size ≤ 5000
  val : c.val.length ≤ 5000 ∧ ∀ x ∈ c.val, x < 256
  want : c.want < 18446744073709551616
  ses : c.ses < 18446744073709551616
  ticks : c.ticks < 18446744073709551616
/-- A command as it comes: its value lies at a. -/
def cmdV (c : MC) (a : Option Addr) (cap : Nat) : Value := .agg #[.int .u8 (c.kind : Nat), .string c.key, .slice a c.val.length cap, .int .u64 (c.want : Nat), .int .u64 (c.ses : Nat), .int .u64 (c.ticks : Nat)]
def cmdC (c : MC) (a : Option Addr) (cap : Nat) : Array Value := #[.int .u8 (c.kind : Nat), .string c.key, .slice a c.val.length cap, .int .u64 (c.want : Nat), .int .u64 (c.ses : Nat), .int .u64 (c.ticks : Nat)]
/-- Counted bytes. -/
def cb (v : List Nat) : List Nat := be 4 v.length ++ v
/-- What a command says behind its kind. -/
def encC (c : MC) : List Nat := cb (strL c.key) ++ cb c.val ++ be 8 c.want ++ be 8 c.ses ++ be 8 c.ticks
def encX (x : Sn) : List Nat := be 8 x.id ++ be 8 x.ends ++ be 8 x.life
def encN (d : Nd) : List Nat := cb (strL d.k) ++ cb d.v ++ be 8 d.ver ++ be 8 d.own
/-- The state behind its kind. -/
def encS (S : MS) : List Nat := be 8 S.now ++ be 8 S.last ++ be 2 S.ses.length ++ S.ses.flatMap encX ++ be 2 S.nodes.length ++ S.nodes.flatMap encN
/-- A command's record. -/
def recB (S : MS) (c : MC) : List Nat := be 1 c.kind ++ if c.kind = 7 then encS S else encC c
end Go.Proofs.YtamcandcfainfaaGreat
