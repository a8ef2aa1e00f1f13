/- The disk in memory: what a Disk reads as (Dk); contract of all. -/
import Derived.Test.YtibaloloheakpaaHead
import Derived.Test.YtibaloloheakpaaPkClone
import Derived.WalkSpells
import Derived.Outline
import Derived.Deep.RegionHeld3
import Derived.Deep.QuietTactic
import Derived.BigQuiet
import Derived.BigRegion
import Derived.StillTailTactics
namespace Go.Proofs.Ytibaloloheakpaa
open Go.RowKit

/-- The Disk at p, with a row. -/
structure DkOn (w : World) (B p r : Nat) (a : Option Addr) (cap : Nat) (l : List Nat) (s room : Nat) : Prop where
  disk : Whole w p 49 #[.pointer (some ⟨r, 0, none⟩), .int .i64 (l.length : Nat), .int .i64 (s : Nat), .int .i64 (room : Nat)]
  row : Whole w r 54 #[.slice a l.length cap]
  head : Hd w B 5 a cap l
  hr : B ≤ r

/-- The Disk at block p has the bytes l, the first s of them sure, and room for so many; its blocks, all from B on, are F. -/
def Dk (w : World) (B p : Nat) (F : List Nat) (l : List Nat) (s room : Nat) : Prop :=
  ((∀ c ∈ l, c < 256) ∧ B ≤ p ∧ s ≤ l.length ∧ l.length ≤ room ∧ room ≤ 16777216) ∧
  ((l = [] ∧ F = [p] ∧ Whole w p 49 #[.pointer none, .int .i64 0, .int .i64 0, .int .i64 (room : Nat)]) ∨
   ∃ r a cap, DkOn w B p r a cap l s room ∧ F = p :: r :: blk a)

theorem sizeU8 : ∀ w, (Go.sizeOf 5).run Try.prog w = .ok 1 w := fun _ => by kernel_rfl

theorem all_nil (p room : Nat) (w : World) (hp : Whole w p 49 #[.pointer none, .int .i64 0, .int .i64 0, .int .i64 (room : Nat)]) :
    Calls Try.prog 22 #[.pointer (some ⟨p, 0, none⟩)] w fun e w' => e = .returned (.slice none 0 0) ∧ w = w' := by
  have c0 := hp.cell 0
  simp at c0
  clear hp
  go_enter Try.func22, Try.ntmps22
  go_wp2
  go_ret
  exact ⟨rfl, rfl⟩

def AllEnd (w : World) (a : Option Addr) (k cap : Nat) (e : Ending) (w' : World) : Prop := e = .returned (.slice a k cap) ∧ ∃ n, w' = w.drewN n

theorem all_on (p r : Nat) (a : Option Addr) (k cap s room : Nat) (w : World)
    (hp : Whole w p 49 #[.pointer (some ⟨r, 0, none⟩), .int .i64 (k : Nat), .int .i64 (s : Nat), .int .i64 (room : Nat)]) (hr : Whole w r 54 #[.slice a k cap]) (hk : k ≤ cap) :
    Calls Try.prog 22 #[.pointer (some ⟨p, 0, none⟩)] w (AllEnd w a k cap) := by
  have c0 := hp.cell 0
  have c1 := hp.cell 1
  have cr := hr.cell 0
  simp at c0 c1 cr
  have hcut := fun w => run_head_h Try.underlying29 sizeU8 w a k cap k hk
  clear hp hr
  go_enter Try.func22, Try.ntmps22
  go_wp2
  go_quiet (fail)
  go_wp2
  go_ret
  exact ⟨rfl, _, rfl⟩
end Go.Proofs.Ytibaloloheakpaa
