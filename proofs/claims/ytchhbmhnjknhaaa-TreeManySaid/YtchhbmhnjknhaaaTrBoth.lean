/- The document's Put, Delete, Get as the program's answers say. -/
import Derived.Test.YtchhbmhnjknhaaaTrShows
namespace Go.Proofs.Ytchhbmhnjknhaaa
open Go.RowKit

def RpEnd (z : World) (B q : Nat) (F : List Nat) (M' : List Nd) (v : Value) (e : Ending) (w' : World) : Prop := e = .returned v ∧ ∃ X' a' c', Rt w' B q F a' c' X' ∧ Alike M' X' ∧ Frm [q] z w'
theorem rput_like {z : World} {B q : Nat} {F : List Nat} {ra : Option Addr} {rc : Nat} {X : List Nx} {M : List Nd} (s : ByteArray) (va : Option Addr) (vn vc : Nat) (v : List Nat) (want own : Nat) (h : Rt z B q F ra rc X) (ha : Alike M X) (hG : Good M) (hF : ∀ x ∈ F, x < z.heap.size)
    (hb : Bytes z va v) (hv : vn = v.length) (hvn : va = none → vc = 0) (hs : s.size ≤ 9223372036854775807) (hw : want < 18446744073709551616) (ho : own < 18446744073709551616) :
    Calls Try.prog 14 #[.pointer (some ⟨q, 0, none⟩), .string s, .slice va vn vc, .int .u64 (want : Nat), .int .u64 (own : Nat)] z (RpEnd z B q F (putNL M s v want own) (.tuple #[.int .u64 (putNR M s v want : Nat), .int .i64 (putNC M s v want : Nat)])) := by
  refine (rput_any s va vn vc v want own h hF hb hv hvn hs hw ho).mono ?_
  rintro e w' ⟨he, X', hX, a', c', hr, hf⟩
  rw [ha.retP, ha.codeP] at he
  exact ⟨he, X', a', c', hr, ha.put hG s v want own hX, hf⟩
theorem rdel_like {z : World} {B q : Nat} {F : List Nat} {ra : Option Addr} {rc : Nat} {X : List Nx} {M : List Nd} (s : ByteArray) (want : Nat) (h : Rt z B q F ra rc X) (ha : Alike M X) (hG : Good M) (hF : ∀ x ∈ F, x < z.heap.size) :
    Calls Try.prog 16 #[.pointer (some ⟨q, 0, none⟩), .string s, .int .u64 (want : Nat)] z (RpEnd z B q F (delL M s want) (.int .i64 (delN M s want : Nat))) := by
  refine (rdel_any s want h hF).mono ?_
  rintro e w' ⟨he, a', c', hr, hf⟩
  have hal := ha.del hG s want rfl
  rw [ha.codeD] at he
  exact ⟨he, _, a', c', hr, hal, hf⟩
theorem rdrop_like {z : World} {B q : Nat} {F : List Nat} {ra : Option Addr} {rc : Nat} {X : List Nx} {M : List Nd} (o : Nat) (h : Rt z B q F ra rc X) (ha : Alike M X) (hF : ∀ x ∈ F, x < z.heap.size) :
    Calls Try.prog 18 #[.pointer (some ⟨q, 0, none⟩), .int .u64 (o : Nat)] z (RpEnd z B q F (keepD o M) (.tuple #[])) := by
  refine (rdrop_any o h hF).mono ?_
  rintro e w' ⟨he, a', c', hr, hf, _⟩
  exact ⟨he, _, a', c', hr, ha.drop o, hf⟩
/-- What the document's Get answers: the same node. -/
theorem get_like {M : List Nd} {X : List Nx} (h : Alike M X) (s : ByteArray) : (X.getD (atN X s) default).t = getN M s ∧ decide (atN X s < X.length) = isN M s := by
  refine ⟨?_, (h.there s).symm⟩
  unfold getN
  rw [h.there s]
  by_cases hin : atN X s < X.length
  · rw [if_pos (by simp [hin]), h.node hin]
  · rw [if_neg (by simp [hin])]
    have : atN X s = X.length := by have := atN_le X s; omega
    simp [List.getD, this]
    rfl
end Go.Proofs.Ytchhbmhnjknhaaa
