/- How long bytes are that came in within other values: no longer than some weight of what was read says. -/
import Derived.Test.YtecfoomjpjcldaaOpWd
import Derived.SizedLaws
namespace Go.Proofs.Ytecfoomjpjcldaa
open Go.ChangeShapes Go.WideShapes Go.ChangeAt Go.RowKit
set_option maxRecDepth 100000
theorem bytesU8 : Try.prog.bytesOf 5 = 1 := by kernel_rfl
/-- No longer than one of these weights. -/
def Wt (n : Nat) (ws : List Nat) : Prop := n = 0 ∨ ∃ k ∈ ws, n ≤ k
theorem Wt.mono {n : Nat} {ws vs : List Nat} (h : Wt n ws) (hs : ∀ k ∈ ws, k ∈ vs) : Wt n vs := by
  rcases h with h | ⟨k, hk, hn⟩
  · exact .inl h
  · exact .inr ⟨k, hs k hk, hn⟩
theorem wt_all {H : Type} {P : Program} {e : TypeId} {d : DataW H} {l : List (DataW H)} (hd : d ∈ l) : ∀ k ∈ d.weights P e, k ∈ DataW.weightsAll P e l := by
  induction l with
  | nil => cases hd
  | cons d0 l ih =>
    intro k hk
    simp only [DataW.weightsAll, List.mem_append]
    rcases List.mem_cons.1 hd with rfl | h
    · exact .inl hk
    · exact .inr (ih h k hk)
theorem wt_reach {H : Type} {P : Program} {ts : List TypeId} {ds : List (DataW H)} (h : (DataW.weightsEach P ts ds).all (· ≤ reachBytes) = true) (j : Nat) {t : TypeId} {d : DataW H} (ht : ts[j]? = some t) (hd : ds[j]? = some d) {n : Nat} (hw : Wt n (d.weights P t)) : n ≤ 140737488355328 := by
  rcases hw with rfl | ⟨k, hk, hn⟩
  · exact Nat.zero_le _
  · have := of_decide_eq_true (List.all_eq_true.1 h _ (DataW.weights_mem_each ht hd k hk))
    have := reachBytes_lt
    omega
theorem wt_bytes {H : Type} {enc : TypeId × Value → H} {w : World} {held : Bool} {fuel : Nat} {a : Option Addr} {n c : Nat} {y : DataW H × List MemPlace}
    (h : DataW.trod enc Try.prog w 0 (fun _ => true) held fuel 38 [.slice a n c] = some y) : Wt n (y.1.weights Try.prog 38) := by
  rcases Go.Deep.open_slice Try.underlying38 h with ⟨hcs, _⟩ | ⟨x, l, c', m, n', D, Pl, hcs, _, hl, hm, hmm, rfl, hi⟩
  · injection hcs with hcs _
    injection hcs with _ hcs _
    exact .inl hcs
  · injection hcs with hcs _
    injection hcs with _ hcs _
    subst hcs
    refine .inr ⟨_, by simp only [DataW.weights, Try.underlying38]; exact List.mem_cons_self, ?_⟩
    rw [bytesU8, List.length_map, List.length_range]
    omega
theorem wt_item {H : Type} {enc : TypeId × Value → H} {w : World} {held : Bool} {fuel : Nat} {v0 : Value} {a : Option Addr} {n c : Nat} {y : DataW H × List MemPlace}
    (h : DataW.trod enc Try.prog w 0 (fun _ => true) held fuel 55 [v0, .slice a n c] = some y) : Wt n (y.1.weights Try.prog 55) := by
  obtain ⟨ys, k, _, rfl, hlen, hyl, hf⟩ := DataW.trod_struct Try.underlying55 h
  have hyl' : ys.length = 2 := hyl
  match ys, hyl', hf with
  | [y0, y1], _, hf =>
    have f1 : DataW.trod enc Try.prog w 0 (fun _ => true) held k 38 (([v0, .slice a n c].drop 1).take (Try.prog.cellsOf 38)) = [y0, y1][1]? := hf 1 _ rfl
    rw [cellsIm1] at f1
    change DataW.trod _ _ _ _ _ _ _ _ [.slice a n c] = some y1 at f1
    refine (wt_bytes f1).mono fun q hq => ?_
    simp only [DataW.weights, Try.underlying55]
    change q ∈ DataW.weightsEach Try.prog [39, 38] [y0.1, y1.1]
    simp only [DataW.weightsEach, List.mem_append]
    exact .inr (.inl hq)
theorem wt_items {H : Type} {enc : TypeId × Value → H} {w : World} {held : Bool} {fuel : Nat} {a : Option Addr} {n c : Nat} {y : DataW H × List MemPlace} {F : List Nat} {X : List Ix}
    (h : DataW.trod enc Try.prog w 0 (fun _ => true) held fuel 49 [.slice a n c] = some y) (hX : IL w F a X) (hn : n = X.length) : ∀ x ∈ X, Wt x.t.2.length (y.1.weights Try.prog 49) := by
  intro x hx
  obtain ⟨i, hi, rfl⟩ := List.getElem_of_mem hx
  obtain ⟨b, off, rfl, h0, h1, _⟩ := hX.at hi
  rw [show X.getD i default = X[i] by simp [hi]] at h0 h1
  rcases Go.Deep.open_slice Try.underlying49 h with ⟨hcs, _⟩ | ⟨q, l, c', m, n', D, Pl, hcs, _, hl, hm, hmm, rfl, hit⟩
  · injection hcs with hcs _
    cases hcs
  · injection hcs with hcs _
    injection hcs with hq hcs _
    injection hq with hq
    subst hcs hq
    have hlm : n ≤ m := by rw [hmm]; split <;> omega
    rw [cellsIm] at hit
    obtain ⟨cs', hc, ht⟩ := hit i (by omega)
    obtain ⟨_, hcl, hat⟩ := World.cells?_some hc
    match cs', hcl with
    | [v0, v1], _ =>
      have c1 := hat 1 (by omega)
      rw [Go.Deep.add_add, addr_add] at c1
      simp only [List.getElem?_cons_succ, List.getElem?_cons_zero] at c1
      have e : off + (i * 2 + 1) = off + i * 2 + 1 := by omega
      rw [e, h1] at c1
      injection c1 with c1
      subst c1
      refine (wt_item ht).mono fun k hk => ?_
      simp only [DataW.weights, Try.underlying49]
      refine List.mem_cons_of_mem _ (List.mem_append.2 (.inl ?_))
      exact wt_all (List.mem_map.2 ⟨i, by simp; omega, rfl⟩) k hk
theorem wt_word {H : Type} {enc : TypeId × Value → H} {w : World} {held : Bool} {fuel : Nat} {v0 v1 v3 : Value} {a : Option Addr} {n c : Nat} {y : DataW H × List MemPlace} {F : List Nat} {X : List Ix}
    (h : DataW.trod enc Try.prog w 0 (fun _ => true) held fuel 67 [v0, v1, .slice a n c, v3] = some y) (hX : IL w F a X) (hn : n = X.length) : ∀ x ∈ X, Wt x.t.2.length (y.1.weights Try.prog 67) := by
  obtain ⟨ys, k, _, rfl, hlen, hyl, hf⟩ := DataW.trod_struct Try.underlying67 h
  have hyl' : ys.length = 4 := hyl
  match ys, hyl', hf with
  | [y0, y1, y2, y3], _, hf =>
    have f2 : DataW.trod enc Try.prog w 0 (fun _ => true) held k 49 (([v0, v1, .slice a n c, v3].drop 2).take (Try.prog.cellsOf 49)) = [y0, y1, y2, y3][2]? := hf 2 _ rfl
    rw [cellsWd2] at f2
    change DataW.trod _ _ _ _ _ _ _ _ [.slice a n c] = some y2 at f2
    intro x hx
    refine (wt_items f2 hX hn x hx).mono fun q hq => ?_
    simp only [DataW.weights, Try.underlying67]
    change q ∈ DataW.weightsEach Try.prog [3, 39, 49, 4] [y0.1, y1.1, y2.1, y3.1]
    simp only [DataW.weightsEach, List.mem_append]
    exact .inr (.inr (.inl hq))
theorem wt_words {H : Type} {enc : TypeId × Value → H} {w : World} {held : Bool} {a : Option Addr} {n c : Nat} {d : DataW H} {p : List MemPlace} {ts : List Wd}
    (h : DataW.Trod enc Try.prog w 0 (fun _ => true) held 59 (.slice a n c) d p) (hX : Wds w a ts) (hn : n = ts.length) : ∀ i, i < ts.length → ∀ x ∈ (ts.getD i default).l, Wt x.t.2.length (d.weights Try.prog 59) := by
  intro i hi x hx
  obtain ⟨fuel, hf⟩ := h
  obtain ⟨b, off, rfl, hat0⟩ := hX (by omega)
  have hw := hat0 i hi
  rcases Go.Deep.open_slice Try.underlying59 hf with ⟨hcs, _⟩ | ⟨q, l, c', m, n', D, Pl, hcs, _, hl, hm, hmm, hd, hit⟩
  · simp [Value.cells] at hcs
  · simp [Value.cells] at hcs
    obtain ⟨rfl, rfl, rfl⟩ := hcs
    injection hd with hd _
    have hlm : n ≤ m := by rw [hmm]; split <;> omega
    rw [cellsWd] at hit
    obtain ⟨cs', hc, ht⟩ := hit i (by omega)
    obtain ⟨_, hcl, hat⟩ := World.cells?_some hc
    match cs', hcl with
    | [v0, v1, v2, v3], _ =>
      have c2 := hat 2 (by omega)
      rw [Go.Deep.add_add, addr_add] at c2
      simp only [List.getElem?_cons_succ, List.getElem?_cons_zero] at c2
      have e : off + (i * 4 + 2) = off + i * 4 + 2 := by omega
      rw [e, hw.c2] at c2
      injection c2 with c2
      subst c2
      refine (wt_word ht hw.ok.l_b rfl x hx).mono fun k hk => ?_
      rw [hd]
      simp only [DataW.weights, Try.underlying59]
      refine List.mem_cons_of_mem _ (List.mem_append.2 (.inl ?_))
      exact wt_all (List.mem_map.2 ⟨i, by simp; omega, rfl⟩) k hk
end Go.Proofs.Ytecfoomjpjcldaa
