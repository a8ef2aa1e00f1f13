/- A record in the making (the document's Put, PutBytes): a row of the call's own since w0. -/
import Derived.Test.YtamcandcfainfaaGreatMX
import Derived.Test.YtamcandcfainfaaGreatZMtDef
namespace Go.Proofs.YtamcandcfainfaaGreat
open Go.RowKit
set_option maxRecDepth 100000
structure Rw (w0 z : World) (a : Option Addr) (cap : Nat) (l : List Nat) : Prop where
  own : z.ownsRow w0.heap.size 5 1 (.slice a l.length cap) l.length (l.map u8v)
  frm : Frm [] w0 z
  new : ∀ x ∈ ob a, w0.heap.size ≤ x
theorem Rw.start (w0 : World) : Rw w0 w0 none 0 [] := ⟨World.ownsRow_nil _ _ _ _, Frm.refl _ _, by simp [ob]⟩
theorem Rw.keep {w0 z z' : World} {a : Option Addr} {cap : Nat} {l : List Nat} (h : Rw w0 z a cap l) (hf : Frm [] z z') : Rw w0 z' a cap l :=
  ⟨hf.own h.own (fun _ _ hm => by simp at hm), h.frm.trans hf (by simp) (by simp), h.new⟩
/-- What one more thing leaves. -/
def RwEnd (w0 : World) (l : List Nat) (e : Ending) (z' : World) : Prop := ∃ a' cap', e = .returned (.slice a' l.length cap') ∧ Rw w0 z' a' cap' l
theorem Rw.of {w0 z z' : World} {a : Option Addr} {cap : Nat} {l b : List Nat} {e : Ending} (h : Rw w0 z a cap l) (hp : RPut z w0.heap.size a l b e z') : RwEnd w0 (l ++ b) e z' := by
  obtain ⟨a', cap', he, ho, hf, hn⟩ := hp
  have hs := h.frm.size
  exact ⟨a', cap', he, ho, h.frm.trans hf (by simp) (fun x hx => .inr (h.new x hx)), fun x hx => by
    rcases hn x hx with h1 | h1
    · exact h.new x h1
    · omega⟩
theorem rw_put {w0 z : World} {a : Option Addr} {cap : Nat} {l : List Nat} (n k : Nat) (h : Rw w0 z a cap l) (hn : n < 18446744073709551616) (hk : k ≤ 8) (hfit : l.length ≤ 100000000) :
    Calls Tryz.prog 37 #[.slice a l.length cap, .int .u64 n, .int .i64 k] z (RwEnd w0 (l ++ be k n)) :=
  (ref_put_any w0.heap.size a cap l n k z h.own h.frm.size hn hk (by omega)).mono fun _ _ hp => h.of hp
theorem rw_bytes {w0 z : World} {a : Option Addr} {cap : Nat} {l : List Nat} (ca : Option Addr) (cn ccap : Nat) (c : List Nat) (h : Rw w0 z a cap l) (hc : Bytes z ca c) (hca : c ≠ [] → ∀ x, ca = some x → x.block ∉ ob a) (hcn : cn = c.length) (hnil : ca = none → ccap = 0) (hfit : l.length ≤ 100000000) (hfit2 : cn ≤ 100000000) :
    Calls Tryz.prog 36 #[.slice a l.length cap, .slice ca cn ccap] z (RwEnd w0 (l ++ cb c)) := by
  have e : cb c = be 4 cn ++ c := by unfold cb; rw [hcn]
  rw [e]
  exact (ref_putbytes_any w0.heap.size a cap l ca cn ccap c z h.own h.frm.size hc hca hcn hnil (by omega)).mono fun _ _ hp => h.of hp
end Go.Proofs.YtamcandcfainfaaGreat
