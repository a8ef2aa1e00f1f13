/- MetaApart: the walk. -/
import Derived.Test.YtomgiockelhfiaaGreatMX
import Derived.Test.YtomgiockelhfiaaGreatZMtKv
import Derived.Test.YtomgiockelhfiaaGreatZMtCmd
import Derived.Deep.LoopGhost
import Derived.Deep.RegionHeld3
namespace Go.Proofs.YtomgiockelhfiaaGreat
open Go.RowKit
set_option maxRecDepth 100000
/-- A command of a program's value, as it is done. -/
theorem cm_ok {w : World} {t : Cm} (h : CmOk w t) (hl : longB t = false) (key : ByteArray) (hk : key.size ≤ 5000) : MCOk ⟨t.k % 9, key, t.val, t.want, t.ses, t.ticks⟩ :=
  ⟨by show t.k % 9 < 256; omega, hk, ⟨(longB_no hl).2, h.val_b.1⟩, h.want_lt, h.ses_lt, h.ticks_lt⟩
def ApRel (w0 : World) (k dp n room : Nat) (s34 : Value) (wr : World) : Prop :=
  ∃ (j : Nat) (S : MS) (l : List Nat) (jq : Nat) (Fd : List Nat), j ≤ n ∧ j ≤ 41 ∧ s34 = .int .i64 (j : Nat) ∧ Hid (Kp wr w0.heap.size [] k jq dp Fd S l room) ∧ Hid (MOk S) ∧ Hid (MVer j S) ∧ Hid (Frm [] w0 wr)

end Go.Proofs.YtomgiockelhfiaaGreat
