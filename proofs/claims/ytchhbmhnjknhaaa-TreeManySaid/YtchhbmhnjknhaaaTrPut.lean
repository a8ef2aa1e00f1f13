/- Contract of the program's Put. -/
import Derived.Test.YtchhbmhnjknhaaaTrStore
import Derived.Test.YtchhbmhnjknhaaaTrFind
namespace Go.Proofs.Ytchhbmhnjknhaaa
open Go.RowKit

def PtEnd (w : World) (B p : Nat) (F : List Nat) (L' : List Nd) (v : Value) (e : Ending) (w' : World) : Prop := e = .returned v ∧ PtTo w w' B p F L'

theorem OwnP.low {w : World} {base b2 : Nat} {a : Option Addr} {cap : Nat} {l : List Value} (h : OwnP w base a cap l) (hb : b2 ≤ base) : OwnP w b2 a cap l := by
  refine ⟨h.1, ?_⟩
  rcases h.2 with h2 | ⟨g, cp, cur, hv, hg, r⟩
  · exact .inl h2
  · exact .inr ⟨g, cp, cur, hv, by omega, r⟩
/-- A node put among those of the tree. -/
theorem put_done {w w9 : World} {B p : Nat} {F : List Nat} {a a9 : Option Addr} {cap c9 : Nat} {L : List Nx} {qs : List Nat} (ix up : Nat) (x : Nx) (q : Nat) (h : Pt w B p F a cap L qs) (hF : ∀ x ∈ F, x < w.heap.size) (hf : Frm [] w w9)
    (hx : Whole w9 q 44 x.cells.toArray) (hxo : NxOk w9 (p :: F) x) (hq : w.heap.size ≤ q) (ho : OwnP w9 w.heap.size a9 c9 ((qs.take ix ++ q :: qs.drop up).map ptr)) (m : Nat) (hm : (qs.take ix ++ q :: qs.drop up).length = m) (hm2 : m ≤ 256) :
    PtTo w (w9.setCell ⟨p, 0, none⟩ (.slice a9 m c9)) B p F ((nds L).take ix ++ x.t :: (nds L).drop up) := by
  have hnl := ((h.nat.keep hf).take ix).append ((NdsAt.one hx).append ((h.nat.keep hf).drop up))
  have hokL := h.ok.keep (F' := p :: F) hf (by simp) (fun x hx => .inl hx)
  have hml : (L.take ix ++ ([x] ++ L.drop up)).length = m := by rw [← hnl.1, ← hm]; rfl
  have hqF : q ∉ p :: F := by
    intro hm
    rcases List.mem_cons.1 hm with h1 | h1
    · have := h.tree.lt; omega
    · have := hF _ h1; omega
  have hst := Pt.store (L' := L.take ix ++ ([x] ++ L.drop up)) (qs' := qs.take ix ++ ([q] ++ qs.drop up)) h hF hf ho hnl.1 hnl.2 (fun y hy => by
    rcases List.mem_append.1 hy with h1 | h1
    · exact hokL y (List.mem_of_mem_take h1)
    · rcases List.mem_append.1 h1 with h2 | h2
      · simp at h2; subst h2; exact hxo
      · exact hokL y (List.mem_of_mem_drop h2)) (fun y hy => by
    rcases List.mem_append.1 hy with h1 | h1
    · exact h.qout y (List.mem_of_mem_take h1)
    · rcases List.mem_append.1 h1 with h2 | h2
      · simp at h2; subst h2; exact hqF
      · exact h.qout y (List.mem_of_mem_drop h2)) (by rw [hml]; exact hm2)
  rw [hml] at hst
  have hnd : nds (L.take ix ++ ([x] ++ L.drop up)) = (nds L).take ix ++ x.t :: (nds L).drop up := by simp [nds, List.map_take, List.map_drop]
  rw [hnd] at hst
  exact hst

set_option maxRecDepth 100000 in
set_option maxHeartbeats 1000000 in
theorem put_len {w : World} {B p : Nat} {F : List Nat} {a : Option Addr} {cap : Nat} {L : List Nx} {qs : List Nat} (s : ByteArray) (va : Option Addr) (vn vc : Nat) (want own : Nat) (_h : Pt w B p F a cap L qs)
    (hs : s.size ≤ 9223372036854775807) (hv : vn ≤ 9223372036854775807) (hc : lenC s.size vn ≠ 0) :
    Calls Try.prog 13 #[.pointer (some ⟨p, 0, none⟩), .string s, .slice va vn vc, .int .u64 (want : Nat), .int .u64 (own : Nat)] w fun e w' => e = .returned (.tuple #[.int .u64 0, .int .i64 (lenC s.size vn : Nat)]) ∧ w = w' := by
  have HL := Lib.hid (lengths_any s va vn vc w hs hv)
  obtain ⟨c, hcc⟩ : ∃ c, c = lenC s.size vn := ⟨_, rfl⟩
  rw [← hcc] at HL hc ⊢
  have hne : ((c : Int) != 0) = true := by rw [bne_iff_ne]; omega
  clear hcc hc hs hv
  go_enter Try.func13, Try.ntmps13
  go_wp2_with fail
  (with_reducible refine HL.out.mono ?_)
  rintro e w' ⟨rfl, rfl⟩
  go_wp2
  go_ret2
  exact ⟨rfl, rfl⟩

set_option maxRecDepth 100000 in
set_option maxHeartbeats 1000000 in
theorem put_unw {w : World} {B p : Nat} {F : List Nat} {a : Option Addr} {cap : Nat} {L : List Nx} {qs : List Nat} (s : ByteArray) (va : Option Addr) (vn vc : Nat) (want own : Nat) (h : Pt w B p F a cap L qs) (hS : Srt (nds L))
    (hs : s.size ≤ 9223372036854775807) (hv : vn ≤ 9223372036854775807) (hl : lenC s.size vn = 0) (hc : unwC (nds L) s want ≠ 0) :
    Calls Try.prog 13 #[.pointer (some ⟨p, 0, none⟩), .string s, .slice va vn vc, .int .u64 (want : Nat), .int .u64 (own : Nat)] w fun e w' => e = .returned (.tuple #[.int .u64 0, .int .i64 (unwC (nds L) s want : Nat)]) ∧ w = w' := by
  have HL := Lib.hid (lengths_any s va vn vc w hs hv)
  rw [hl] at HL
  have HFI := Lib.hid (find_any s h hS)
  have HUN := Lib.hid (unwanted_any s want h)
  obtain ⟨c, hcc⟩ : ∃ c, c = unwC (nds L) s want := ⟨_, rfl⟩
  rw [← hcc] at HUN hc ⊢
  generalize ixN (nds L) s = ix at HFI HUN
  generalize isN (nds L) s = is at HFI HUN
  have hne : ((c : Int) != 0) = true := by rw [bne_iff_ne]; omega
  clear hcc hc hs hv h hl hS
  go_enter Try.func13, Try.ntmps13
  go_wp2_with fail
  (with_reducible refine HL.out.mono ?_)
  rintro e w' ⟨rfl, rfl⟩
  go_wp2_with fail
  (with_reducible refine HFI.out.mono ?_)
  rintro e w' ⟨rfl, rfl⟩
  go_wp2_with fail
  (with_reducible refine HUN.out.mono ?_)
  rintro e w' ⟨rfl, rfl⟩
  go_wp2
  go_ret2
  exact ⟨rfl, rfl⟩

end Go.Proofs.Ytchhbmhnjknhaaa
