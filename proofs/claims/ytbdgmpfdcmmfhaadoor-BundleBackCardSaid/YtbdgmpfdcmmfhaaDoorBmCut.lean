/- Slices cut out of slices of ints. -/
import Derived.Test.YtbdgmpfdcmmfhaaDoorBmOps
import Derived.Laws.Slices
namespace Go.Proofs.YtbdgmpfdcmmfhaaDoor
open Go.RowKit
set_option maxRecDepth 100000

def cutI (a : Option Addr) (cap lo : Nat) : Option Addr := if cap = lo then a else a.map (·.add lo)
theorem size_iv (w : World) : (Go.sizeOf 3).run Tryd.prog w = .ok 1 w := by kernel_rfl
theorem iv_elem : Tryd.prog.elem 23 = 3 := by simp [Program.elem, Tryd.underlying23]
theorem iv_under : Tryd.prog.underlying 23 = some (.slice (Tryd.prog.elem 23)) := by simp [Program.elem, Tryd.underlying23]
theorem run_cutI_h (w : World) (a : Option Addr) (n cap hi : Nat) (h2 : hi ≤ cap) :
    (Instr.slice 23 (.slice a n cap) none (some (.int .i64 (hi : Nat))) none).run Tryd.prog w = .ok (.slice (cutI a cap 0) hi cap) w := by
  rw [run_slice_h w _ _ _ _ iv_under _ _ (by omega) (by omega), iv_elem, size_iv]
  simp [Result.andThen, sliced, cutI]
theorem run_cutI_l (w : World) (a : Option Addr) (n cap lo : Nat) (h1 : lo ≤ n) :
    (Instr.slice 23 (.slice a n cap) (some (.int .i64 (lo : Nat))) none none).run Tryd.prog w = .ok (.slice (cutI a cap lo) (n - lo) (cap - lo)) w := by
  rw [run_slice_l w _ _ _ _ iv_under _ _ (by omega) (by omega), iv_elem, size_iv]
  simp [Result.andThen, sliced, cutI]
theorem cutI_some {a : Option Addr} {cap lo : Nat} {q : Addr} (h : cutI a cap lo = some q) : ∃ r, a = some r ∧ q.block = r.block := by
  unfold cutI at h
  split at h
  · exact ⟨q, h, rfl⟩
  · cases a with
    | none => simp at h
    | some r => simp at h; exact ⟨r, rfl, by rw [← h]; unfold Addr.add; split <;> rfl⟩
theorem cutI_none {a : Option Addr} {cap lo : Nat} (h : a = none → cap = 0) (hc : cutI a cap lo = none) : cap - lo = 0 := by
  unfold cutI at hc
  by_cases hlo : cap = lo
  · omega
  · rw [if_neg hlo] at hc
    have := h (by simpa using hc)
    omega
theorem ivs_take (X : List Nat) (n : Nat) : ivs (X.take n) = (ivs X).take n := by unfold ivs; rw [List.map_take]
theorem ivs_drop (X : List Nat) (n : Nat) : ivs (X.drop n) = (ivs X).drop n := by unfold ivs; rw [List.map_drop]
theorem IvL.take {w : World} {F : List Nat} {a : Option Addr} {X : List Nat} (h : IvL w F a X) (n : Nat) : IvL w F a (X.take n) := by
  refine ⟨?_, fun hne => h.away (by rintro rfl; simp at hne)⟩
  rw [ivs_take]
  rcases h.vals with h' | ⟨b, off, rfl, hc⟩
  · exact .inl (by rw [h']; simp)
  · refine .inr ⟨b, off, rfl, fun i u hu => hc i u ?_⟩
    rw [List.getElem?_take] at hu
    split at hu
    · exact hu
    · cases hu
theorem IvL.cut {w : World} {F : List Nat} {a : Option Addr} {X : List Nat} {cap : Nat} (h : IvL w F a X) (hc : X.length ≤ cap) (lo : Nat) : IvL w F (cutI a cap lo) (X.drop lo) := by
  refine ⟨?_, fun hne q hq => ?_⟩
  · rw [ivs_drop]
    rcases h.vals with h' | ⟨b, off, rfl, hcl⟩
    · exact .inl (by rw [h']; simp)
    · unfold cutI
      split
      · rename_i he
        refine .inl ?_
        have : (ivs X).length ≤ lo := by rw [ivs_length]; omega
        rw [List.drop_eq_nil_of_le this]
      · refine .inr ⟨b, off + lo, by simp [Addr.add], fun i u hu => ?_⟩
        rw [List.getElem?_drop] at hu
        have := hcl _ _ hu
        rwa [← Nat.add_assoc] at this
  · obtain ⟨r, hr, hb⟩ := cutI_some hq
    rw [hb]
    exact h.away (by rintro rfl; simp at hne) r hr
theorem slin_take {w : World} {a : Option Addr} {cap : Nat} {L : List Nat} (h : IvSlIn w ⟨a, cap, L⟩) (i : Nat) : IvSlIn w ⟨cutI a cap 0, cap, L.take i⟩ := by
  have h3 : L.length ≤ cap := h.2.2.1
  refine ⟨?_, fun hh => ?_, ?_, h.2.2.2⟩
  · show IvL w [] (cutI a cap 0) (L.take i)
    have := (IvL.cut (cap := cap) h.1 h3 0).take i
    rwa [List.drop_zero] at this
  · have := cutI_none h.2.1 hh; show cap = 0; omega
  · show (L.take i).length ≤ cap
    rw [List.length_take]; omega
theorem slin_drop {w : World} {a : Option Addr} {cap : Nat} {L : List Nat} (h : IvSlIn w ⟨a, cap, L⟩) (i : Nat) : IvSlIn w ⟨cutI a cap i, cap - i, L.drop i⟩ := by
  have h3 : L.length ≤ cap := h.2.2.1
  have h4 : cap ≤ 9223372036854775807 := h.2.2.2
  refine ⟨IvL.cut (cap := cap) h.1 h3 i, fun hh => cutI_none h.2.1 hh, ?_, ?_⟩
  · show (L.drop i).length ≤ cap - i
    rw [List.length_drop]; omega
  · show cap - i ≤ 9223372036854775807
    omega
/-- What Concat answers over a literal of slices, as it lies where the slices end. -/
theorem bmcat_three {W : World} {aA aB : Option Addr} {n1 c1 n2 c2 j : Nat} {X Y : List Nat} (hA : IvSlIn W ⟨aA, c1, X⟩) (hB : IvSlIn W ⟨aB, c2, Y⟩) (h1 : n1 = X.length) (h2 : n2 = Y.length) (hfit : X.length + Y.length ≤ 1000) :
    Calls Tryd.prog 25 #[.slice (some ⟨W.heap.size + 1, 0, none⟩) 3 3] ((W.alloc (.cells #[.int .i64 (j : Nat)] 3)).alloc (.cells #[.slice aA n1 c1, .slice (some ⟨W.heap.size, 0, none⟩) 1 1, .slice aB n2 c2] 23)).drew (fun e w' => ∃ a' cap', e = .returned (.slice a' (X ++ ([j] ++ Y)).length cap') ∧ IvOwn w' W.heap.size 3 [] a' cap' (X ++ ([j] ++ Y)) ∧ Frm [] W w') := by
  subst h1; subst h2
  obtain ⟨W1, hW1⟩ : ∃ W1, W1 = W.alloc (.cells #[.int .i64 (j : Nat)] 3) := ⟨_, rfl⟩
  obtain ⟨W2, hW2⟩ : ∃ W2, W2 = W1.alloc (.cells #[.slice aA X.length c1, .slice (some ⟨W.heap.size, 0, none⟩) 1 1, .slice aB Y.length c2] 23) := ⟨_, rfl⟩
  rw [← hW1, ← hW2]
  have s1 : W1.heap.size = W.heap.size + 1 := by rw [hW1]; simp
  have f1 : Frm [] W W1 := by rw [hW1]; exact (Frm.refl _ _).alloc _
  have f2 : Frm [] W1 W2.drew := by rw [hW2]; exact ((Frm.refl _ _).alloc _).drew
  have f02 := f1.trans f2 (U := []) (by simp) (by simp)
  have hw : Whole W2.drew (W.heap.size + 1) 23 #[.slice aA X.length c1, .slice (some ⟨W.heap.size, 0, none⟩) 1 1, .slice aB Y.length c2] := by rw [← s1, hW2]; exact (Whole.made W1 _ _).drew
  have hv : ValsAt W1 (some ⟨W.heap.size, 0, none⟩) (ivs [j]) := by rw [hW1]; exact ivs_vals_one W j _
  have hin : IvSlsIn W2.drew (W.heap.size + 1) [⟨aA, c1, X⟩, ⟨some ⟨W.heap.size, 0, none⟩, 1, [j]⟩, ⟨aB, c2, Y⟩] := by
    intro k hk
    simp at hk
    have hc := hw.cell k
    rcases k with _ | _ | _ | k
    · exact ⟨hc, hA.keep f02⟩
    · exact ⟨hc, ⟨hv.keep f2 (by simp), by simp⟩, by simp, by simp, by simp⟩
    · exact ⟨hc, hB.keep f02⟩
    · omega
  have e : ivall [(⟨aA, c1, X⟩ : IvSl), ⟨some ⟨W.heap.size, 0, none⟩, 1, [j]⟩, ⟨aB, c2, Y⟩] = X ++ ([j] ++ Y) := by simp [ivall]
  refine (ivconcat_any (n := 3) hin rfl (by decide) (by rw [e]; simp; omega)).mono fun x w' h => ?_
  rw [e] at h
  obtain ⟨a, c, rfl, ho, hf'⟩ := h
  exact ⟨a, c, rfl, ho.low f02.size, f02.trans hf' (by simp) (by simp)⟩
theorem bmcat_two {W : World} {aA aB : Option Addr} {n1 c1 n2 c2 : Nat} {X Y : List Nat} (hA : IvSlIn W ⟨aA, c1, X⟩) (hB : IvSlIn W ⟨aB, c2, Y⟩) (h1 : n1 = X.length) (h2 : n2 = Y.length) (hfit : X.length + Y.length ≤ 1000) :
    Calls Tryd.prog 25 #[.slice (some ⟨W.heap.size, 0, none⟩) 2 2] (W.alloc (.cells #[.slice aA n1 c1, .slice aB n2 c2] 23)).drew (fun e w' => ∃ a' cap', e = .returned (.slice a' (X ++ Y).length cap') ∧ IvOwn w' W.heap.size 3 [] a' cap' (X ++ Y) ∧ Frm [] W w') := by
  have f2 : Frm [] W (W.alloc (.cells #[.slice aA n1 c1, .slice aB n2 c2] 23)).drew := ((Frm.refl _ _).alloc _).drew
  refine (ivcat_two (Whole.made W _ _).drew h1 h2 (hA.keep f2) (hB.keep f2) (by omega)).mono fun x w' ⟨a, c, h1, ho, hf⟩ => ⟨a, c, h1, ho.low f2.size, f2.trans hf (by simp) (by simp)⟩
end Go.Proofs.YtbdgmpfdcmmfhaaDoor
