/- The law's few: a call of few ledgers and entries, or as it came. -/
import Derived.Test.YtamcandcfainfaaGreatMX
import Derived.Test.YtamcandcfainfaaGreatZInSa
import Derived.WalkKit
import Derived.BigGuard
namespace Go.Proofs.YtamcandcfainfaaGreat
open Go.RowKit
set_option maxRecDepth 100000

/-- What few makes of a call. -/
def fewS (t : Sa) : Sa := if t.raw = true then t else { t with led := t.led % 4, ent := t.ent % 4, sure := t.sure % 5, data := t.data.take 1 }
theorem few_cells {w : World} {a : Option Addr} {d : List Nat} (h : Bytes w a d) : d.take 1 = [] ∨ ∃ b off, a = some ⟨b, off, none⟩ ∧ ∀ i, i < (d.take 1).length → w.cell? ⟨b, off + i, none⟩ = some (.int .u8 ((d.take 1).getD i 0 : Nat)) := by
  rcases h.2.2 with h | ⟨b, off, ha, hc⟩
  · exact .inl (by rw [h]; rfl)
  · refine .inr ⟨b, off, ha, fun i hi => ?_⟩
    rw [List.length_take] at hi
    have : i = 0 := by omega
    subst this
    rw [hc 0 (by omega)]
    cases d <;> rfl
theorem fewS_ok {w : World} {t : Sa} (h : SaOk w t) : SaOk w (fewS t) := by
  unfold fewS
  split
  · exact h
  · refine ⟨h.kind_lt, ?_, ?_, ?_, ?_, ?_, h.data_nil⟩
    · show t.led % 4 < 18446744073709551616; omega
    · show t.ent % 4 < 18446744073709551616; omega
    · show t.sure % 5 < 18446744073709551616; omega
    · exact ⟨fun c hc => h.data_b.1 c (List.mem_of_mem_take hc), by have := h.data_b.2.1; show (t.data.take 1).length ≤ _; rw [List.length_take]; omega, few_cells h.data_b⟩
    · show (t.data.take 1).length ≤ t.dataC
      have := h.data_le
      rw [List.length_take]; omega
theorem fewS_len (t : Sa) : (fewS t).data.length ≤ t.data.length := by
  unfold fewS
  split
  · exact Nat.le_refl _
  · show (t.data.take 1).length ≤ _
    rw [List.length_take]; omega

set_option maxHeartbeats 4000000 in
theorem few_any (t : Sa) (w : World) (h : SaOk w t) : Calls Tryz.prog 8 #[t.value] w fun e w' => e = .returned (fewS t).value ∧ Frm [] w w' := by
  obtain ⟨tk, tl, te, tr, tm, ts, da, dc, dd⟩ := t
  have hle := h.data_le
  have hb63 := h.data_b.2.1
  have l1 := h.led_lt
  have l2 := h.ent_lt
  have l3 := h.sure_lt
  simp only at hle hb63 l1 l2 l3
  unfold Sa.value fewS
  dsimp only
  obtain ⟨dn, hdn⟩ : ∃ dn, dn = dd.length := ⟨_, rfl⟩
  rw [← hdn] at hle hb63
  cases tr
  case true =>
    simp only [if_true]
    rw [← hdn]
    clear h hle hb63 hdn
    go_enter Tryz.func8, Tryz.ntmps8
    go_wp2
    refine bodyPost_ret (results_cell_row (P := Tryz.prog) rfl _ _ (w.heap.size + 1) _ _ _ _ rfl (heap_alloc2_new w _ _) Tryz.underlying43 rfl (by kernel_rfl)) rfl ?_
    exact ⟨rfl, ((Frm.refl _ _).alloc _).alloc _⟩
  case false =>
    simp only [if_neg (show ¬ false = true by decide)]
    rw [List.length_take, ← hdn, Nat.min_comm]
    clear h hdn
    have hn := fun (w : World) (h : dn ≤ dc) => run_head_h (P := Tryz.prog) (e := 5) Tryz.underlying35 (fun _ => by kernel_rfl) w da dn dc dn h
    have h1 := fun (w : World) (h : 1 ≤ dc) => run_head_h (P := Tryz.prog) (e := 5) Tryz.underlying35 (fun _ => by kernel_rfl) w da dn dc 1 h
    rw [show ((1 : Nat) : Int) = 1 from rfl] at h1
    have hn := fun w => hn w hle
    by_cases h0 : dn = 0
    · subst h0
      clear h1
      rw [show ((0 : Nat) : Int) = 0 from rfl] at hn
      rw [show min 0 1 = 0 from rfl]
      go_enter Tryz.func8, Tryz.ntmps8
      go_wp2
      refine bodyPost_ret (results_cell_row (P := Tryz.prog) rfl _ _ (w.heap.size + 1) _ _ _ _ rfl (heap_alloc2_new w _ _) Tryz.underlying43 rfl (by kernel_rfl)) rfl ?_
      exact ⟨rfl, ((Frm.refl _ _).alloc _).alloc _⟩
    · have h1 := fun w => h1 w (by omega)
      have hm : dn = 1 ∨ 1 < dn := by omega
      rw [show min dn 1 = 1 by omega]
      clear h0
      go_enter Tryz.func8, Tryz.ntmps8
      first
        | (go_wp2
           · refine bodyPost_ret (results_cell_row (P := Tryz.prog) rfl _ _ (w.heap.size + 1) _ _ _ _ rfl (heap_alloc2_new w _ _) Tryz.underlying43 rfl (by kernel_rfl)) rfl ?_
             exact ⟨rfl, ((Frm.refl _ _).alloc _).alloc _⟩
           · refine bodyPost_ret (results_cell_row (P := Tryz.prog) rfl _ _ (w.heap.size + 1) _ _ _ _ rfl (heap_alloc2_new w _ _) Tryz.underlying43 rfl (by kernel_rfl)) rfl ?_
             obtain rfl : dn = 1 := by omega
             exact ⟨rfl, ((Frm.refl _ _).alloc _).alloc _⟩)
        | (go_wp2
           refine bodyPost_ret (results_cell_row (P := Tryz.prog) rfl _ _ (w.heap.size + 1) _ _ _ _ rfl (heap_alloc2_new w _ _) Tryz.underlying43 rfl (by kernel_rfl)) rfl ?_
           have hmn : (min (dn : Int) 1).toNat = 1 := by omega
           rw [hmn]
           exact ⟨rfl, ((Frm.refl _ _).alloc _).alloc _⟩)
end Go.Proofs.YtamcandcfainfaaGreat
