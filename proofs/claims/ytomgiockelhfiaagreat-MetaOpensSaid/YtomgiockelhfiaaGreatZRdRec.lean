/- Contract of the document's Record: commands. -/
import Derived.Test.YtomgiockelhfiaaGreatMX
import Derived.Test.YtomgiockelhfiaaGreatZRwPut
import Derived.Deep.RegionLaw
namespace Go.Proofs.YtomgiockelhfiaaGreat
open Go.RowKit
set_option maxRecDepth 100000
theorem Rw.lt {w0 z : World} {a : Option Addr} {cap : Nat} {l : List Nat} (h : Rw w0 z a cap l) : ∀ x ∈ ob a, x < z.heap.size := fun x hx => (World.ownsRow.lt h.own x (ob_some.2 hx)).2
def RwE (w0 : World) (l : List Nat) (e : Ending) (z' : World) : Prop := ∃ a' n' cap', Hid (n' = l.length) ∧ e = .returned (.slice a' n' cap') ∧ Hid (Rw w0 z' a' cap' l)
theorem RwEnd.e {w0 z' : World} {l : List Nat} {e : Ending} (h : RwEnd w0 l e z') : RwE w0 l e z' := by
  obtain ⟨a', cap', he, hr⟩ := h
  exact ⟨a', _, cap', Lib.hid rfl, he, Lib.hid hr⟩
theorem re_put {w0 z : World} {a : Option Addr} {n0 cap : Nat} {l : List Nat} (n k : Nat) (i : Int) (hi : i = (k : Nat)) (h : Rw w0 z a cap l) (h0 : n0 = l.length) (hn : n < 18446744073709551616) (hk : k ≤ 8) (hfit : l.length ≤ 100000000) :
    Calls Tryz.prog 57 #[.slice a n0 cap, .int .u64 n, .int .i64 i] z (RwE w0 (l ++ be k n)) := by
  subst h0; subst hi
  exact (rw_put n k h hn hk hfit).mono fun _ _ h => h.e
theorem re_bytes {w0 z : World} {a : Option Addr} {n0 cap : Nat} {l : List Nat} (ca : Option Addr) (cn ccap : Nat) (c : List Nat) (h : Rw w0 z a cap l) (h0 : n0 = l.length) (hc : Bytes z ca c) (hca : c ≠ [] → ∀ x, ca = some x → x.block ∉ ob a) (hcn : cn = c.length) (hnil : ca = none → ccap = 0) (hfit : l.length ≤ 100000000) (hfit2 : cn ≤ 100000000) :
    Calls Tryz.prog 58 #[.slice a n0 cap, .slice ca cn ccap] z (RwE w0 (l ++ cb c)) := by
  subst h0
  exact (rw_bytes ca cn ccap c h hc hca hcn hnil hfit hfit2).mono fun _ _ h => h.e
/-- A text's bytes, made for the call. -/
theorem re_text {w0 z : World} {a : Option Addr} {n0 cap n cp : Nat} {l : List Nat} (s : ByteArray) (h : Rw w0 z a cap l) (h0 : n0 = l.length) (hn : n = s.size) (hs : s.size ≤ 5000) (hfit : l.length ≤ 100000000) :
    Calls Tryz.prog 58 #[.slice a n0 cap, .slice (some ⟨z.heap.size, 0, none⟩) n cp] (Lib.bytesWorld z 5 s) (RwE w0 (l ++ cb (strL s))) := by
  subst hn
  refine re_bytes _ _ _ (strL s) (h.keep (conv_frm z 5 s)) h0 (conv_bytes z 5 s (by omega)) ?_ (strL_length s).symm (by simp) hfit (by omega)
  intro _ x hx hm
  cases hx
  have := h.lt _ hm
  simp at this
end Go.Proofs.YtomgiockelhfiaaGreat
