/- Contracts of the document's Order, Behind, Trim; of the law's Place. -/
import Derived.Test.YtimmoencmmpkdaaLdSame
import Derived.Test.YtimmoencmmpkdaaLdTrim
import Derived.Test.YtimmoencmmpkdaaEqPs
namespace Go.Proofs.Ytimmoencmmpkdaa
open Go.RowKit
set_option maxRecDepth 100000

set_option maxHeartbeats 2000000 in
theorem rlorder_any (a b : Ps) (w : World) : Calls Try.prog 20 #[a.val, b.val] w (LRet w (.int .i64 (ordP a b))) := by
  obtain ⟨al, ae⟩ := a
  obtain ⟨bl, be⟩ := b
  unfold Ps.val LRet
  simp only
  obtain ⟨w1, hw1⟩ : ∃ w1, w1 = (w.alloc (.cells #[.int .u64 (al : Nat), .int .u64 (ae : Nat)] 36)).alloc (.cells #[.int .u64 (bl : Nat), .int .u64 (be : Nat)] 36) := ⟨_, rfl⟩
  have F1 : Hid (Frm [] w w1) := Lib.hid (by rw [hw1]; exact ((Frm.refl _ _).alloc _).alloc _)
  obtain ⟨g, hg⟩ : ∃ g, g = w.heap.size := ⟨_, rfl⟩
  have B1 : Whole w1 g 36 #[.int .u64 (al : Nat), .int .u64 (ae : Nat)] := by rw [hw1, hg]; exact (Whole.made _ _ _).alloc _
  have B2 : Whole w1 (g + 1) 36 #[.int .u64 (bl : Nat), .int .u64 (be : Nat)] := by
    rw [hw1, hg]
    have := Whole.made (w.alloc (.cells #[.int .u64 (al : Nat), .int .u64 (ae : Nat)] 36)) 36 #[.int .u64 (bl : Nat), .int .u64 (be : Nat)]
    rwa [World.size_alloc] at this
  have k1 := B1.cell 0
  have k2 := B1.cell 1
  have k3 := B2.cell 0
  have k4 := B2.cell 1
  simp only [List.getElem?_toArray, List.getElem?_cons_zero, List.getElem?_cons_succ] at k1 k2 k3 k4
  have ee := fun w => eql_ps al ae bl be w
  clear B1 B2
  have HW1 := Lib.hid hw1
  have HG := Lib.hid hg
  by_cases h1 : al < bl
  · have d1 : decide (al < bl) = true := decide_eq_true h1
    have d1' : decide ((al : Int) < (bl : Int)) = true := decide_eq_true (by omega)
    have E : Hid (ordP ⟨al, ae⟩ ⟨bl, be⟩ = -1) := Lib.hid (by unfold ordP Ps.lt; exact if_pos (Or.inl h1))
    rw [E.out]
    clear h1
    go_enter Try.func20, Try.ntmps20
    go_upto_region 1 with (fail)
    rw [← hw1, ← hg]
    clear hw1 hg
    go_wp2
    go_ret
    exact ⟨rfl, F1.out⟩
  have d1 : decide (al < bl) = false := decide_eq_false h1
  have d1' : decide ((al : Int) < (bl : Int)) = false := decide_eq_false (by omega)
  by_cases h2 : al = bl
  · have d2 : ((al : Int) == (bl : Int)) = true := by rw [beq_iff_eq]; omega
    by_cases h3 : ae < be
    · have d3 : decide (ae < be) = true := decide_eq_true h3
      have d3' : decide ((ae : Int) < (be : Int)) = true := decide_eq_true (by omega)
      have E : Hid (ordP ⟨al, ae⟩ ⟨bl, be⟩ = -1) := Lib.hid (by unfold ordP Ps.lt; exact if_pos (Or.inr ⟨h2, h3⟩))
      rw [E.out]
      clear h1 h2 h3
      go_enter Try.func20, Try.ntmps20
      go_upto_region 1 with (fail)
      rw [← hw1, ← hg]
      clear hw1 hg
      go_wp2
      go_ret
      exact ⟨rfl, F1.out⟩
    · have d3 : decide (ae < be) = false := decide_eq_false h3
      have d3' : decide ((ae : Int) < (be : Int)) = false := decide_eq_false (by omega)
      by_cases h4 : ae = be
      · have E : Hid (ordP ⟨al, ae⟩ ⟨bl, be⟩ = 0) := Lib.hid (by subst h2; subst h4; unfold ordP; rw [if_neg (Ps.lt_irrefl _), if_neg (Ps.lt_irrefl _)])
        have ee2 : ∀ w : World, (binOp .eql 36 (.agg #[.int .u64 (al : Nat), .int .u64 (ae : Nat)]) (.agg #[.int .u64 (bl : Nat), .int .u64 (be : Nat)])).run Try.prog w = .ok (.bool true) w := fun w => by rw [ee, decide_eq_true (by rw [h2, h4])]
        rw [E.out]
        clear h1 h2 h3 h4 ee
        go_enter Try.func20, Try.ntmps20
        go_upto_region 1 with (fail)
        rw [← hw1, ← hg]
        clear hw1 hg
        go_wp2
        go_ret
        exact ⟨rfl, F1.out⟩
      · have E : Hid (ordP ⟨al, ae⟩ ⟨bl, be⟩ = 1) := Lib.hid (by unfold ordP Ps.lt; exact (if_neg (by simp only; omega)).trans (if_pos (by simp only; omega)))
        have ee2 : ∀ w : World, (binOp .eql 36 (.agg #[.int .u64 (al : Nat), .int .u64 (ae : Nat)]) (.agg #[.int .u64 (bl : Nat), .int .u64 (be : Nat)])).run Try.prog w = .ok (.bool false) w := fun w => by rw [ee, decide_eq_false (by simp [h4])]
        rw [E.out]
        clear h1 h2 h3 h4 ee
        go_enter Try.func20, Try.ntmps20
        go_upto_region 1 with (fail)
        rw [← hw1, ← hg]
        clear hw1 hg
        go_wp2
        go_ret
        exact ⟨rfl, F1.out⟩
  · have d2 : ((al : Int) == (bl : Int)) = false := by rw [beq_eq_false_iff_ne]; omega
    have E : Hid (ordP ⟨al, ae⟩ ⟨bl, be⟩ = 1) := Lib.hid (by unfold ordP Ps.lt; exact (if_neg (by simp only; omega)).trans (if_pos (by simp only; omega)))
    have ee2 : ∀ w : World, (binOp .eql 36 (.agg #[.int .u64 (al : Nat), .int .u64 (ae : Nat)]) (.agg #[.int .u64 (bl : Nat), .int .u64 (be : Nat)])).run Try.prog w = .ok (.bool false) w := fun w => by rw [ee, decide_eq_false (by simp [h2])]
    rw [E.out]
    clear h1 h2 ee
    go_enter Try.func20, Try.ntmps20
    go_upto_region 1 with (fail)
    rw [← hw1, ← hg]
    clear hw1 hg
    go_wp2
    go_ret
    exact ⟨rfl, F1.out⟩
theorem rlbehind_any (p : Ps) (hp : p.fits) (w : World) : Calls Try.prog 26 #[p.val] w (LRet w (behindP p).val) := by
  obtain ⟨pl, pe⟩ := p
  obtain ⟨h1, h2⟩ := hp
  unfold behindP Ps.val LRet
  simp only at h1 h2 ⊢
  by_cases he : pe = 18446744073709551615
  · rw [if_pos he]
    have d1 : ((pe : Int) == 18446744073709551615) = true := by rw [beq_iff_eq]; omega
    obtain ⟨q, hq⟩ : ∃ q, q = (pl + 1) % 18446744073709551616 := ⟨_, rfl⟩
    rw [← hq]
    have hw : IntKind.u64.wrap ((pl : Int) + 1) = (q : Int) := by simp [IntKind.wrap, IntKind.bits, IntKind.signed]; omega
    have hw2 : ((pl : Int) + 1) % 18446744073709551616 = (q : Int) := by omega
    clear hq h1 h2 he
    go_enter Try.func26, Try.ntmps26
    go_wp2
    refine bodyPost_ret (results_cell_row (P := Try.prog) rfl _ _ (w.heap.size + 1) _ _ _ _ rfl (heap_alloc2_new w _ _) Try.underlying36 rfl (by kernel_rfl)) rfl ?_
    exact ⟨rfl, ((Frm.refl _ _).alloc _).alloc _⟩
  · rw [if_neg he]
    have d1 : ((pe : Int) == 18446744073709551615) = false := by rw [beq_eq_false_iff_ne]; omega
    obtain ⟨q, hq⟩ : ∃ q, q = pe + 1 := ⟨_, rfl⟩
    rw [← hq]
    have hw : IntKind.u64.wrap ((pe : Int) + 1) = (q : Int) := by simp [IntKind.wrap, IntKind.bits, IntKind.signed]; omega
    have hw2 : ((pe : Int) + 1) % 18446744073709551616 = (q : Int) := by omega
    clear hq h1 h2 he
    go_enter Try.func26, Try.ntmps26
    go_wp2
    refine bodyPost_ret (results_cell_row (P := Try.prog) rfl _ _ (w.heap.size + 1) _ _ _ _ rfl (heap_alloc2_new w _ _) Try.underlying36 rfl (by kernel_rfl)) rfl ?_
    exact ⟨rfl, ((Frm.refl _ _).alloc _).alloc _⟩
/-- What Place answers. -/
def placeP (p : Ps) (raw : Bool) : Ps := if raw then p else ⟨p.l % 16, p.e % 8⟩
theorem placeP_fits (p : Ps) (raw : Bool) (h : p.fits) : (placeP p raw).fits := by
  unfold placeP
  cases raw
  · have h1 := Nat.mod_le p.l 16
    have h2 := Nat.mod_le p.e 8
    exact ⟨Nat.lt_of_le_of_lt h1 h.1, Nat.lt_of_le_of_lt h2 h.2⟩
  · exact h
theorem place_any (p : Ps) (raw : Bool) (w : World) : Calls Try.prog 16 #[p.val, .bool raw] w (LRet w (placeP p raw).val) := by
  obtain ⟨pl, pe⟩ := p
  unfold placeP Ps.val LRet
  simp only
  cases raw
  · obtain ⟨q, hq⟩ : ∃ q, q = pl % 16 := ⟨_, rfl⟩
    obtain ⟨r, hr⟩ : ∃ r, r = pe % 8 := ⟨_, rfl⟩
    rw [if_neg (by simp), ← hq, ← hr]
    have h1 : (pl : Int) % 16 = (q : Int) := by omega
    have h2 : (pl : Int).tmod 16 = (q : Int) := by rw [hq]; rfl
    have h3 : (pe : Int) % 8 = (r : Int) := by omega
    have h4 : (pe : Int).tmod 8 = (r : Int) := by rw [hr]; rfl
    have h5 : IntKind.u64.wrap (q : Int) = (q : Int) := by simp [IntKind.wrap, IntKind.bits, IntKind.signed]; omega
    have h6 : IntKind.u64.wrap (r : Int) = (r : Int) := by simp [IntKind.wrap, IntKind.bits, IntKind.signed]; omega
    clear hq hr
    go_enter Try.func16, Try.ntmps16
    go_wp2
    refine bodyPost_ret (results_cell_row (P := Try.prog) rfl _ _ (w.heap.size + 1) _ _ _ _ rfl (heap_alloc2_new w _ _) Try.underlying36 rfl (by kernel_rfl)) rfl ?_
    exact ⟨rfl, ((Frm.refl _ _).alloc _).alloc _⟩
  · rw [if_pos rfl]
    go_enter Try.func16, Try.ntmps16
    go_wp2
    refine bodyPost_ret (results_cell_row (P := Try.prog) rfl _ _ (w.heap.size + 1) _ _ _ _ rfl (heap_alloc2_new w _ _) Try.underlying36 rfl (by kernel_rfl)) rfl ?_
    exact ⟨rfl, ((Frm.refl _ _).alloc _).alloc _⟩
end Go.Proofs.Ytimmoencmmpkdaa
