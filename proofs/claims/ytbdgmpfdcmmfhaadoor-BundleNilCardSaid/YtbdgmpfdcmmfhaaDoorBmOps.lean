/- Contracts of All, Split, Join. -/
import Derived.Test.YtbdgmpfdcmmfhaaDoorBmBase
import Derived.Test.YtbdgmpfdcmmfhaaDoorIvCat
namespace Go.Proofs.YtbdgmpfdcmmfhaaDoor
open Go.RowKit
set_option maxRecDepth 100000

theorem IvOwn.low {w : World} {B B' : Nat} {e : TypeId} {F : List Nat} {a : Option Addr} {cap : Nat} {X : List Nat} (h : IvOwn w B e F a cap X) (hb : B' ≤ B) : IvOwn w B' e F a cap X := by
  refine ⟨⟨h.own.1, ?_⟩, h.away⟩
  rcases h.own.2 with h2 | ⟨g, c, cur, hv, hg, r⟩
  · exact .inl h2
  · exact .inr ⟨g, c, cur, hv, Nat.le_trans hb hg, r⟩
theorem ivsls_two {w : World} {g : Nat} {a b : Option Addr} {n m c d : Nat} {X Y : List Nat} (hg : Whole w g 23 #[.slice a n c, .slice b m d]) (hn : n = X.length) (hm : m = Y.length)
    (h1 : IvSlIn w ⟨a, c, X⟩) (h2 : IvSlIn w ⟨b, d, Y⟩) : IvSlsIn w g [⟨a, c, X⟩, ⟨b, d, Y⟩] := by
  subst hn; subst hm
  intro k hk
  have hk' : k = 0 ∨ k = 1 := by simp at hk; omega
  rcases hk' with rfl | rfl
  · exact ⟨hg.cell 0, h1⟩
  · exact ⟨hg.cell 1, h2⟩
theorem Bm.slin {w : World} {p : Nat} {a : Option Addr} {cap : Nat} {L : List Nat} (h : Bm w p a cap L) : IvSlIn w ⟨a, cap, L⟩ := ⟨h.slice, h.nil, h.le, h.cm⟩

theorem ivcat_two {w : World} {g : Nat} {a b : Option Addr} {n m c d : Nat} {X Y : List Nat} (hg : Whole w g 23 #[.slice a n c, .slice b m d]) (hn : n = X.length) (hm : m = Y.length)
    (h1 : IvSlIn w ⟨a, c, X⟩) (h2 : IvSlIn w ⟨b, d, Y⟩) (hl : X.length + Y.length ≤ 100000) :
    Calls Tryd.prog 25 #[.slice (some ⟨g, 0, none⟩) 2 2] w (RetIv w (X ++ Y)) := by
  have e : ivall [(⟨a, c, X⟩ : IvSl), ⟨b, d, Y⟩] = X ++ Y := by simp [ivall]
  have := ivconcat_any (n := 2) (ivsls_two hg hn hm h1 h2) rfl (by decide) (by rw [e, List.length_append]; exact hl)
  rwa [e] at this

set_option maxHeartbeats 1000000 in
theorem bmall_any {w : World} {p : Nat} {a : Option Addr} {cap : Nat} {L : List Nat} (h : Bm w p a cap L) :
    Calls Tryd.prog 16 #[.pointer (some ⟨p, 0, none⟩)] w (MAllE w (allM (Bf L))) := by
  have c0 := h.tab.cell 0
  simp at c0
  obtain ⟨n, hn⟩ : ∃ n, n = L.length := ⟨_, rfl⟩
  rw [← hn] at c0
  rw [allM_Bf h.ok]
  obtain ⟨W1, hW1⟩ : ∃ W1, W1 = w.alloc (.cells #[.int .i64 0] 3) := ⟨_, rfl⟩
  obtain ⟨W2, hW2⟩ : ∃ W2, W2 = W1.alloc (.cells #[.slice (some ⟨w.heap.size, 0, none⟩) 1 1, .slice a n cap] 23) := ⟨_, rfl⟩
  have f1 : Frm [] w W1 := by rw [hW1]; exact (Frm.refl _ _).alloc _
  have f2 : Frm [] W1 W2 := by rw [hW2]; exact (Frm.refl _ _).alloc _
  have c1 := (f1.cell (p := ⟨p, 0, none⟩) h.tab.lt (by simp)).trans c0
  have f02 := f1.trans f2 (U := []) (by simp) (by simp)
  have s1 : W1.heap.size = w.heap.size + 1 := by rw [hW1]; simp
  have HC : Hid (Calls Tryd.prog 25 #[.slice (some ⟨w.heap.size + 1, 0, none⟩) 2 2] W2 (RetIv W2 ([0] ++ L))) := Lib.hid (by
    refine ivcat_two (a := some ⟨w.heap.size, 0, none⟩) (b := a) (n := 1) (m := n) (c := 1) (d := cap) (by rw [← s1, hW2]; exact Whole.made _ _ _) rfl hn ⟨⟨?_, by simp⟩, by simp, by simp, by simp⟩ (h.slin.keep f02) (by have := h.ok.few; simp; omega)
    have : ValsAt W1 (some ⟨w.heap.size, 0, none⟩) (ivs [0]) := by rw [hW1]; exact ivs_vals_one w 0 _
    exact this.keep f2 (by simp))
  have HQ : Hid (∀ e z, RetIv W2 ([0] ++ L) e z → MAllE w (0 :: L) e z) := Lib.hid (fun e z ⟨a', c', he, ho, hf⟩ =>
    ⟨a', _, c', he, rfl, ho.low f02.size, f02.trans hf (by simp) (by simp)⟩)
  subst hW2
  subst hW1
  clear h hn f1 f2 f02 s1
  go_enter Tryd.func16, Tryd.ntmps16
  go_wp2_with fail
  (with_reducible refine HC.out.mono ?_)
  rintro e z ⟨a', c', rfl, ho, hf⟩
  have H := Lib.hid (HQ.out _ z ⟨a', c', rfl, ho, hf⟩)
  clear ho hf
  go_wp2
  go_ret
  exact H.out
end Go.Proofs.YtbdgmpfdcmmfhaaDoor
