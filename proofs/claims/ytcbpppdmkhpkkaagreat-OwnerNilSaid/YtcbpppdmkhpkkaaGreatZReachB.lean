/- How long bytes and texts are that came in within other values: no longer than some weight of what was read says. -/
import Derived.Test.YtcbpppdmkhpkkaaGreatZOpBase
import Derived.SizedLaws
namespace Go.Proofs.YtcbpppdmkhpkkaaGreat
open Go.ChangeShapes Go.WideShapes Go.ChangeAt Go.RowKit
set_option maxRecDepth 100000
/-- No longer than one of these weights. -/
def Wt (n : Nat) (ws : List Nat) : Prop := n = 0 ∨ ∃ k ∈ ws, n ≤ k
theorem Wt.mono {n : Nat} {ws vs : List Nat} (h : Wt n ws) (hs : ∀ k ∈ ws, k ∈ vs) : Wt n vs := by
  rcases h with h | ⟨k, hk, hn⟩
  · exact .inl h
  · exact .inr ⟨k, hs k hk, hn⟩
theorem wt_reach {H : Type} {P : Program} {ts : List TypeId} {ds : List (DataW H)} (h : (DataW.weightsEach P ts ds).all (· ≤ reachBytes) = true) (j : Nat) {t : TypeId} {d : DataW H} (ht : ts[j]? = some t) (hd : ds[j]? = some d) {n : Nat} (hw : Wt n (d.weights P t)) : n ≤ 140737488355328 := by
  rcases hw with rfl | ⟨k, hk, hn⟩
  · exact Nat.zero_le _
  · have := of_decide_eq_true (List.all_eq_true.1 h _ (DataW.weights_mem_each ht hd k hk))
    have := reachBytes_lt
    omega
theorem wt_string {H : Type} {enc : TypeId × Value → H} {w : World} {held : Bool} {fuel : Nat} {s : ByteArray} {y : DataW H × List MemPlace}
    (h : DataW.trod enc Tryz.prog w 0 (fun _ => true) held fuel 9 [.string s] = some y) : Wt s.size (y.1.weights Tryz.prog 9) := by
  obtain ⟨s', hcs, rfl, _⟩ := DataW.trod_string Tryz.underlying9 h
  injection hcs with hcs _
  injection hcs with hcs
  subst hcs
  refine .inr ⟨s.data.toList.length, by simp [DataW.weights], ?_⟩
  rw [Array.length_toList]
  exact Nat.le_refl _
end Go.Proofs.YtcbpppdmkhpkkaaGreat
