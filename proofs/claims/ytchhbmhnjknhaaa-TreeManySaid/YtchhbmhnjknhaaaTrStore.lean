/- Pieces of the tree's row of pointers; a new row stored in the tree. -/
import Derived.Test.YtchhbmhnjknhaaaTrConcat
import Derived.Test.YtchhbmhnjknhaaaTrAlone
import Derived.Deep.RegionLaw
import Derived.IntWalk
namespace Go.Proofs.Ytchhbmhnjknhaaa
open Go.RowKit

theorem ValsAt.take {w : World} {a : Option Addr} {us : List Value} (h : ValsAt w a us) (n : Nat) : ValsAt w a (us.take n) := by
  rcases h with h | ⟨b, off, rfl, hc⟩
  · exact .inl (by rw [h]; simp)
  · refine .inr ⟨b, off, rfl, fun i u hu => hc i u ?_⟩
    rw [List.getElem?_take] at hu
    split at hu
    · exact hu
    · cases hu
/-- The address of what is left of a slice of one-cell elements. -/
def cut1 (a : Option Addr) (cap lo : Nat) : Option Addr := if cap = lo then a else a.map (·.add lo)
theorem ValsAt.drop {w : World} {a : Option Addr} {us : List Value} {cap : Nat} (h : ValsAt w a us) (hc : us.length ≤ cap) (lo : Nat) : ValsAt w (cut1 a cap lo) (us.drop lo) := by
  unfold cut1
  by_cases hlo : cap = lo
  · rw [if_pos hlo, List.drop_eq_nil_of_le (by omega)]; exact .inl rfl
  · rw [if_neg hlo]
    rcases h with h' | ⟨b, off, rfl, hcc⟩
    · exact .inl (by rw [h']; simp)
    · refine .inr ⟨b, off + lo, by simp [addr_add], fun i u hu => ?_⟩
      rw [List.getElem?_drop] at hu
      rw [Nat.add_assoc]
      exact hcc _ _ hu
theorem cut1_none {a : Option Addr} {cap lo : Nat} (h : a = none → cap = 0) (hc : cut1 a cap lo = none) : cap - lo = 0 := by
  unfold cut1 at hc
  by_cases hlo : cap = lo
  · omega
  · rw [if_neg hlo] at hc
    have := h (by simpa using hc)
    omega
section
variable {P : Program} {t e : TypeId}
theorem run_cut1 (ht : P.underlying t = some (.slice e)) (hz : ∀ w, (Go.sizeOf e).run P w = .ok 1 w) (w : World) (a : Option Addr) (n cap lo : Nat) (l : Int) (hl : l = (lo : Nat)) (h1 : lo ≤ n) :
    (Instr.slice t (.slice a n cap) (some (.int .i64 l)) none none).run P w = .ok (.slice (cut1 a cap lo) (n - lo) (cap - lo)) w := by
  subst hl
  have ht' : P.underlying t = some (.slice (P.elem t)) := by simp [Program.elem, ht]
  have he : P.elem t = e := by simp [Program.elem, ht]
  rw [run_slice_l w t _ _ _ ht' .i64 _ (by omega) (by omega), he, hz]
  simp [Result.andThen, sliced, cut1]
end
theorem sizeP : ∀ w, (Go.sizeOf 71).run Try.prog w = .ok 1 w := fun _ => by kernel_rfl
theorem ptr_one (qs : List Nat) : ∀ u ∈ qs.map ptr, u.oneCell' = true := by
  intro u hu
  obtain ⟨q, _, rfl⟩ := List.mem_map.1 hu
  rfl

/-- What a change of the tree leaves. -/
def PtTo (w w' : World) (B p : Nat) (F : List Nat) (L' : List Nd) : Prop := ∃ a' c' X qs, Pt w' B p F a' c' X qs ∧ nds X = L' ∧ Frm [p] w w'
/-- A new row of nodes is stored in the tree. -/
theorem Pt.store {w w1 : World} {B p : Nat} {F : List Nat} {a a' : Option Addr} {cap c' : Nat} {L L' : List Nx} {qs qs' : List Nat} (h : Pt w B p F a cap L qs) (hF : ∀ x ∈ F, x < w.heap.size) (hf : Frm [] w w1)
    (hr : OwnP w1 w.heap.size a' c' (qs'.map ptr)) (hlen : qs'.length = L'.length) (hn : ∀ i, i < L'.length → Whole w1 (qs'.getD i 0) 44 (L'.getD i default).cells.toArray)
    (hok : NOk w1 (p :: F) L') (hq : ∀ q ∈ qs', q ∉ p :: F) (hl : L'.length ≤ 256) :
    PtTo w (w1.setCell ⟨p, 0, none⟩ (.slice a' L'.length c')) B p F (nds L') := by
  have hpl := h.tree.lt
  have ht := (hf.whole h.tree (by simp)).put 0 (.slice a' L'.length c')
  have hs : Frm [p] w1 (w1.setCell ⟨p, 0, none⟩ (.slice a' L'.length c')) := (Frm.refl _ _).setCell (.inl (by simp)) _
  have hc := hr.caps
  rw [List.length_map, hlen] at hc
  have hnew : ∀ x, a' = some x → x.block ∉ p :: F := by
    intro x hx hm
    have h1 := (hr.lt x hx).1
    rcases List.mem_cons.1 hm with h2 | h2
    · omega
    · have := hF _ h2; omega
  refine ⟨a', c', L', qs', ⟨by simpa using ht, hlen, (hr.vals).keep hs (fun _ x hx hm => ?_), fun i hi => hs.whole (hn i hi) (fun hm => ?_), hok.keep hs (fun x hx => .inl (by simp at hx; simp [hx])) (fun x hx => .inl hx), h.hp, h.out, fun _ x hx => hnew x hx, hq, hl, hc.1, hc.2.1, hc.2.2⟩, rfl, (hf.weak (by simp)).trans hs (fun x hx => hx) (fun x hx => .inl hx)⟩
  · simp at hm; exact hnew x hx (by simp [hm])
  · simp at hm; exact hq _ (getD_mem (by rw [hlen]; exact hi)) (by simp [hm])
/-- Nodes of the tree, and what was laid beside, in a later world. -/
theorem Pt.later {w w1 : World} {B p : Nat} {F : List Nat} {a : Option Addr} {cap : Nat} {L : List Nx} {qs : List Nat} (h : Pt w B p F a cap L qs) (hf : Frm [] w w1) :
    (∀ i, i < L.length → Whole w1 (qs.getD i 0) 44 (L.getD i default).cells.toArray) ∧ NOk w1 (p :: F) L :=
  ⟨fun i hi => hf.whole (h.nodes i hi) (by simp), h.ok.keep hf (by simp) (fun x hx => .inl hx)⟩
/-- The nodes' facts, list by list. -/
def NdsAt (w : World) (L : List Nx) (qs : List Nat) : Prop := qs.length = L.length ∧ ∀ i, i < L.length → Whole w (qs.getD i 0) 44 (L.getD i default).cells.toArray
theorem NdsAt.append {w : World} {L M : List Nx} {qs rs : List Nat} (h : NdsAt w L qs) (k : NdsAt w M rs) : NdsAt w (L ++ M) (qs ++ rs) := by
  refine ⟨by simp [h.1, k.1], fun i hi => ?_⟩
  rw [List.length_append] at hi
  by_cases hl : i < L.length
  · have e1 : (L ++ M).getD i default = L.getD i default := by simp [List.getD, List.getElem?_append, hl]
    have e2 : (qs ++ rs).getD i 0 = qs.getD i 0 := by simp [List.getD, List.getElem?_append, h.1, hl]
    rw [e1, e2]; exact h.2 i hl
  · have e1 : (L ++ M).getD i default = M.getD (i - L.length) default := by simp [List.getD, List.getElem?_append, hl]
    have e2 : (qs ++ rs).getD i 0 = rs.getD (i - L.length) 0 := by simp [List.getD, List.getElem?_append, h.1, hl]
    rw [e1, e2]; exact k.2 _ (by omega)
theorem NdsAt.take {w : World} {L : List Nx} {qs : List Nat} (h : NdsAt w L qs) (n : Nat) : NdsAt w (L.take n) (qs.take n) := by
  refine ⟨by simp [h.1], fun i hi => ?_⟩
  rw [List.length_take] at hi
  have e1 : (L.take n).getD i default = L.getD i default := by simp [List.getD, show i < n by omega]
  have e2 : (qs.take n).getD i 0 = qs.getD i 0 := by simp [List.getD, show i < n by omega]
  rw [e1, e2]; exact h.2 i (by omega)
theorem NdsAt.drop {w : World} {L : List Nx} {qs : List Nat} (h : NdsAt w L qs) (n : Nat) : NdsAt w (L.drop n) (qs.drop n) := by
  refine ⟨by simp [h.1], fun i hi => ?_⟩
  rw [List.length_drop] at hi
  have e1 : (L.drop n).getD i default = L.getD (n + i) default := by simp [List.getD, List.getElem?_drop]
  have e2 : (qs.drop n).getD i 0 = qs.getD (n + i) 0 := by simp [List.getD, List.getElem?_drop]
  rw [e1, e2]; exact h.2 _ (by omega)
theorem NdsAt.one {w : World} {x : Nx} {q : Nat} (h : Whole w q 44 x.cells.toArray) : NdsAt w [x] [q] := by
  refine ⟨rfl, fun i hi => ?_⟩
  have : i = 0 := by simpa using hi
  subst this; exact h
theorem NdsAt.keep {w w' : World} {L : List Nx} {qs : List Nat} (h : NdsAt w L qs) (hf : Frm [] w w') : NdsAt w' L qs := ⟨h.1, fun i hi => hf.whole (h.2 i hi) (by simp)⟩
theorem Pt.nat {w : World} {B p : Nat} {F : List Nat} {a : Option Addr} {cap : Nat} {L : List Nx} {qs : List Nat} (h : Pt w B p F a cap L qs) : NdsAt w L qs := ⟨h.len, h.nodes⟩
end Go.Proofs.Ytchhbmhnjknhaaa
