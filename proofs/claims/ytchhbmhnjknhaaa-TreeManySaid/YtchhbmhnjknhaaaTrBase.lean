/- The program's tree in memory; contracts of strings.Compare, of the comparison of a node with a key, of lengths. -/
import Derived.Test.YtchhbmhnjknhaaaTrMath
import Derived.Deep.LoopGhost
import Derived.Lib.Bytealg
import Derived.Lib.Walk
namespace Go.Proofs.Ytchhbmhnjknhaaa
open Go.RowKit

def ptr (q : Nat) : Value := .pointer (some ⟨q, 0, none⟩)
/-- The program's tree at p has the nodes L, the one at i at block qs[i]; neither p nor its row, a node, or a value lies in the blocks F, and p not among them. -/
structure Pt (w : World) (B p : Nat) (F : List Nat) (a : Option Addr) (cap : Nat) (L : List Nx) (qs : List Nat) : Prop where
  tree : Whole w p 65 #[.slice a L.length cap]
  len : qs.length = L.length
  ptrs : ValsAt w a (qs.map ptr)
  nodes : ∀ i, i < L.length → Whole w (qs.getD i 0) 44 (L.getD i default).cells.toArray
  ok : NOk w (p :: F) L
  hp : B ≤ p
  out : p ∉ F
  away : L ≠ [] → ∀ q, a = some q → q.block ∉ p :: F
  qout : ∀ q ∈ qs, q ∉ p :: F
  few : L.length ≤ 256
  lcap : L.length ≤ cap
  mcap : cap ≤ maxLen
  nil : a = none → cap = 0
section
variable {w w' : World} {B p : Nat} {F F' S : List Nat} {a : Option Addr} {cap : Nat} {L : List Nx} {qs : List Nat}
theorem qs_ne {L : List Nx} {qs : List Nat} (h : qs.length = L.length) : qs.map ptr ≠ [] → L ≠ [] := by
  rintro h0 rfl
  simp at h
  subst h
  exact h0 rfl
theorem getD_mem {qs : List Nat} {i : Nat} (h : i < qs.length) : qs.getD i 0 ∈ qs := by simp [h]
theorem Pt.keep (h : Pt w B p F a cap L qs) (hf : Frm S w w') (hS : ∀ x ∈ S, x ∈ F ∨ w.heap.size ≤ x) (hF : ∀ x ∈ F', x ∈ F ∨ w.heap.size ≤ x) : Pt w' B p F' a cap L qs := by
  have hq : ∀ i, i < L.length → qs.getD i 0 ∈ qs := fun i hi => getD_mem (by rw [h.len]; exact hi)
  have hql : ∀ q ∈ qs, q < w.heap.size := by
    intro q hq
    obtain ⟨i, hi, rfl⟩ := List.getElem_of_mem hq
    have := (h.nodes i (by rw [← h.len]; exact hi)).lt
    simpa [hi] using this
  have hpl := h.tree.lt
  have nF : ∀ x, x ∉ p :: F → x < w.heap.size → x ∉ p :: F' := by
    intro x hx hl hm
    rcases List.mem_cons.1 hm with rfl | hm
    · exact hx (by simp)
    · rcases hF x hm with h1 | h1
      · exact hx (by simp [h1])
      · omega
  have nS : ∀ x, x ∉ p :: F → x < w.heap.size → x ∉ S := by
    intro x hx hl hm
    rcases hS x hm with h1 | h1
    · exact hx (by simp [h1])
    · omega
  have ha : L ≠ [] → ∀ q, a = some q → q.block < w.heap.size := fun h0 => vals_lt h.ptrs (by
    intro e; simp at e; have := h.len; rw [e] at this; exact h0 (List.eq_nil_of_length_eq_zero this.symm))
  refine ⟨hf.whole h.tree (fun hm => ?_), h.len, h.ptrs.keep hf (fun h0 q hq' => ?_), fun i hi => hf.whole (h.nodes i hi) (nS _ (h.qout _ (hq i hi)) (h.nodes i hi).lt), ?_, h.hp, fun hm => ?_, fun h0 q hq' => ?_, fun q hq' => ?_, h.few, h.lcap, h.mcap, h.nil⟩
  · rcases hS p hm with h1 | h1
    · exact h.out h1
    · omega
  · exact nS _ (h.away (qs_ne h.len h0) q hq') (ha (qs_ne h.len h0) q hq')
  · refine h.ok.keep hf (fun x hx => ?_) (fun x hx => ?_)
    · rcases hS x hx with h1 | h1
      · exact .inl (by simp [h1])
      · exact .inr h1
    · rcases List.mem_cons.1 hx with rfl | hx
      · exact .inl (by simp)
      · rcases hF x hx with h1 | h1
        · exact .inl (by simp [h1])
        · exact .inr h1
  · rcases hF p hm with h1 | h1
    · exact h.out h1
    · omega
  · exact nF _ (h.away h0 q hq') (ha h0 q hq')
  · exact nF _ (h.qout q hq') (hql q hq')
/-- One of its nodes. -/
theorem Pt.at (h : Pt w B p F a cap L qs) {i : Nat} (hi : i < L.length) :
    ∃ b off q, a = some ⟨b, off, none⟩ ∧ w.cell? ⟨b, off + i, none⟩ = some (.pointer (some ⟨q, 0, none⟩)) ∧ q = qs.getD i 0 ∧ w.cell? ⟨q, 0, none⟩ = some (.string (L.getD i default).t.k) ∧ w.cell? ⟨q, 1, none⟩ = some (.slice (L.getD i default).a (L.getD i default).t.v.length (L.getD i default).c) ∧
      w.cell? ⟨q, 2, none⟩ = some (.int .u64 ((L.getD i default).t.ver : Nat)) ∧ w.cell? ⟨q, 3, none⟩ = some (.int .u64 ((L.getD i default).t.own : Nat)) ∧ NxOk w (p :: F) (L.getD i default) := by
  have hl : i < qs.length := by rw [h.len]; exact hi
  have hn := h.nodes i hi
  have hu : (qs.map ptr)[i]? = some (ptr (qs.getD i 0)) := by simp [hl]
  rcases h.ptrs with h0 | ⟨b, off, rfl, hc⟩
  · rw [h0] at hu; simp at hu
  · exact ⟨b, off, _, rfl, hc i _ hu, rfl, hn.cell 0, hn.cell 1, hn.cell 2, hn.cell 3, h.ok _ (by simp [hi])⟩
end

/-- strings.Compare. -/
theorem compare_any (a b : ByteArray) (w : World) :
    Calls Try.prog 48 #[.string a, .string b] w fun e w' => e = .returned (.int .i64 (Lib.compareBytes a.data.toList b.data.toList)) ∧ w = w' := by
  have h1 : ∀ w, Calls Try.prog 57 #[.string a, .string b] w fun e w' => e = .returned (.int .i64 (Lib.compareBytes a.data.toList b.data.toList)) ∧ w = w' := by
    intro w
    go_enter Try.func57, Try.ntmps57
    go_wp2
    rw [run_callFunc_extern Try.func61 (by kernel_rfl) (by kernel_rfl) (by kernel_rfl) (e := Extern.BytealgCompare.compare) (by kernel_rfl), Lib.run_compareString]
    simp only [Result.andThen]
    rw [Oper.upon_value]
    go_wp2
    go_ret
    exact ⟨rfl, rfl⟩
  go_enter Try.func48, Try.ntmps48
  go_wp2_with ((with_reducible refine (h1 _).mono ?_); rintro e w' ⟨rfl, rfl⟩)
  go_ret
  exact ⟨rfl, rfl⟩
theorem cmp_any (q : Nat) (k s : ByteArray) (w : World) (h : w.cell? ⟨q, 0, none⟩ = some (.string k)) :
    Calls Try.prog 47 #[.pointer (some ⟨q, 0, none⟩), .string s] w fun e w' => e = .returned (.int .i64 (Lib.compareBytes k.data.toList s.data.toList)) ∧ w = w' := by
  go_enter Try.func47, Try.ntmps47
  go_wp2_with ((with_reducible refine (compare_any _ _ _).mono ?_); rintro e w' ⟨rfl, rfl⟩)
  go_ret
  exact ⟨rfl, rfl⟩
/-- What a key and a value are refused for by their lengths (0: nothing). -/
def lenC (k n : Nat) : Nat := if k < 1 ∨ 64 < k then 10 else if 3840 < n then 3 else 0
theorem lengths_any (s : ByteArray) (va : Option Addr) (vn vc : Nat) (w : World) (hs : s.size ≤ 9223372036854775807) (hv : vn ≤ 9223372036854775807) :
    Calls Try.prog 29 #[.string s, .slice va vn vc] w fun e w' => e = .returned (.int .i64 (lenC s.size vn : Nat)) ∧ w = w' := by
  unfold lenC
  by_cases h1 : s.size < 1
  · rw [if_pos (.inl h1)]
    have h1' : s.toList = [] := by
      have : s.data.toList = [] := List.eq_nil_of_length_eq_zero (by rw [← Lib.size_eq]; omega)
      rw [Lib.toList_data]; exact this
    have h3 : ((s.size : Int) == 0) = true := by rw [beq_iff_eq]; omega
    go_enter Try.func29, Try.ntmps29
    go_wp2
    go_ret
    exact ⟨rfl, rfl⟩
  · have h3 : ((s.size : Int) == 0) = false := by rw [beq_eq_false_iff_ne]; omega
    by_cases h2 : 64 < s.size
    · rw [if_pos (.inr h2)]
      go_enter Try.func29, Try.ntmps29
      go_wp2
      go_ret
      exact ⟨rfl, rfl⟩
    · rw [if_neg (by omega)]
      by_cases h4 : 3840 < vn
      · rw [if_pos h4]
        go_enter Try.func29, Try.ntmps29
        go_wp2
        go_ret
        exact ⟨rfl, rfl⟩
      · rw [if_neg h4]
        go_enter Try.func29, Try.ntmps29
        go_wp2
        go_ret
        exact ⟨rfl, rfl⟩
end Go.Proofs.Ytchhbmhnjknhaaa
