/- Contract of the document's Open. -/
import Derived.Test.YtefplgligmkbiaaRbOps
namespace Go.Proofs.Ytefplgligmkbiaa
open Go.RowKit

theorem slit {B : Nat} {G : List Nat} (z : World) (hB : B ≤ z.heap.size) (hG : ∀ x ∈ G, x < z.heap.size) : SOwn (z.alloc (.cells #[] 56)) B 56 G (some ⟨z.heap.size, 0, none⟩) 0 [] :=
  ⟨World.ownsRow_lit z #[] 0 hB (by unfold maxLen; omega) rfl, by simp, fun g hg hm => by simp at hg; subst hg; have h1 := hG _ hm; omega⟩
theorem slit2 {B : Nat} {G : List Nat} (z : World) (o : Obj) (hB : B ≤ z.heap.size) (hG : ∀ x ∈ G, x < z.heap.size) : SOwn ((z.alloc (.cells #[] 56)).alloc o) B 56 G (some ⟨z.heap.size, 0, none⟩) 0 [] :=
  (slit z hB hG).keep (S := []) ((Frm.refl _ _).alloc _) (by simp) (fun x hx => .inl hx)
theorem slit3 {B : Nat} {G : List Nat} (z : World) (o : Obj) (hB : B ≤ z.heap.size) (hG : ∀ x ∈ G, x < z.heap.size) : SOwn ((z.alloc o).alloc (.cells #[] 56)) B 56 G (some ⟨z.heap.size + 1, 0, none⟩) 0 [] := by
  have h := slit (B := B) (G := G) (z.alloc o) (by simp; omega) (fun x hx => by simp; have := hG x hx; omega)
  simpa using h
theorem Rb.bump {w : World} {B p : Nat} {F : List Nat} {a : Option Addr} {cap last : Nat} {X : List Sn} (h : Rb w B p F a cap last X) (hl : last + 1 < 18446744073709551616) : Rb (w.setCell ⟨p, 0, none⟩ (.int .u64 ((last + 1 : Nat) : Nat))) B p F a cap (last + 1) X := by
  have hs : Frm [p] w (w.setCell ⟨p, 0, none⟩ (.int .u64 ((last + 1 : Nat) : Nat))) := (Frm.refl _ _).setCell (.inl (by simp)) _
  have h0 := h.book.put 0 (.int .u64 ((last + 1 : Nat) : Nat))
  exact { h with book := by simpa using h0, row := h.row.keep hs (fun x hx => .inl (by simp at hx; simp [hx])) (fun _ hx => .inl hx), lt := hl }

set_option maxRecDepth 100000 in
set_option maxHeartbeats 8000000 in
theorem ropen_any {w : World} {B p : Nat} {F : List Nat} {a : Option Addr} {cap last : Nat} {X : List Sn} (now life : Nat) (h : Rb w B p F a cap last X) (hF : ∀ x ∈ F, x < w.heap.size) (hnow : now < 18446744073709551616) (hlf : life < 18446744073709551616) :
    Calls Try.prog 12 #[.pointer (some ⟨p, 0, none⟩), .int .u64 (now : Nat), .int .u64 (life : Nat)] w
      (RbEnd w B p F (openT last X.length life) (openS X last now life) (.tuple #[.int .u64 (openR last X.length life : Nat), .int .i64 (openC last X.length life : Nat)])) := by
  have c0 := h.book.cell 0
  have c1 := h.book.cell 1
  have f0 := h.book.free 0
  simp at c0 c1
  have HSAME : Hid (∃ a' c', Rb w B p F a' c' last X ∧ Frm [p] w w) := Lib.hid ⟨a, cap, h, Frm.refl _ _⟩
  by_cases hl1 : 1 ≤ life
  · by_cases hl2 : life ≤ 1099511627776
    · have d1 : ((life : Int) == 0) = false := by rw [beq_eq_false_iff_ne]; omega
      have d2 : decide ((1099511627776 : Int) < (life : Int)) = false := decide_eq_false (by omega)
      by_cases h16 : X.length = 16
      · have hc : openC last X.length life = 14 := by unfold openC; rw [if_pos ⟨hl1, hl2⟩, if_pos (.inl h16)]
        have hr : openR last X.length life = 0 := by unfold openR; rw [hc]; rfl
        have ht : openT last X.length life = last := by unfold openT; rw [hc]; rfl
        have hX : openS X last now life = X := by unfold openS; rw [hc]; rfl
        rw [hc, hr, ht, hX]
        rw [h16] at c1
        clear hc hr ht hX h
        go_enter Try.func12, Try.ntmps12
        go_wp2
        go_ret2
        exact ⟨rfl, HSAME.out⟩
      · by_cases hmax : last = 18446744073709551615
        · have hc : openC last X.length life = 14 := by unfold openC; rw [if_pos ⟨hl1, hl2⟩, if_pos (.inr hmax)]
          have hr : openR last X.length life = 0 := by unfold openR; rw [hc]; rfl
          have ht : openT last X.length life = last := by unfold openT; rw [hc]; rfl
          have hX : openS X last now life = X := by unfold openS; rw [hc]; rfl
          rw [hc, hr, ht, hX]
          generalize X.length = n at c1 h16
          have hn16 : ((n : Int) == 16) = false := by rw [beq_eq_false_iff_ne]; omega
          have hmm : ((last : Int) == 18446744073709551615) = true := by rw [beq_iff_eq]; omega
          clear hc hr ht hX h hmax
          go_enter Try.func12, Try.ntmps12
          go_wp2
          go_ret2
          exact ⟨rfl, HSAME.out⟩
        · have hc : openC last X.length life = 0 := by unfold openC; rw [if_pos ⟨hl1, hl2⟩, if_neg (fun h => h.elim h16 hmax)]
          have hr : openR last X.length life = last + 1 := by unfold openR; rw [hc]; rfl
          have ht : openT last X.length life = last + 1 := by unfold openT; rw [hc]; rfl
          have hX : openS X last now life = X ++ [⟨last + 1, sumN now life, life⟩] := by unfold openS; rw [hc]; rfl
          rw [hc, hr, ht, hX]
          have hlt := h.lt
          have hx16 : X.length < 16 := by have := h.few; omega
          have hb1 := h.bump (by omega)
          have HFS : Hid (∀ y ∈ [(⟨last + 1, sumN now life, life⟩ : Sn)], y.fits) := Lib.hid (fun y hy => by simp at hy; subst hy; exact fits_push hl2 (by omega))
          have HSU := Lib.hid (fun w => sum_any (w := w) now life hnow hlf)
          obtain ⟨s, hs⟩ : ∃ s, s = sumN now life := ⟨_, rfl⟩
          rw [← hs] at HFS HSU ⊢
          obtain ⟨l1, hl1'⟩ : ∃ l1, l1 = last + 1 := ⟨_, rfl⟩
          have hw0 : ((last : Int) + 1) % 18446744073709551616 = (l1 : Int) := by omega
          have hw : IntKind.u64.wrap ((last : Int) + 1) = (l1 : Int) := by rw [← hw0]; simp [IntKind.wrap, IntKind.bits, IntKind.signed]
          rw [← hl1'] at hb1 HFS ⊢
          obtain ⟨w1, hw1⟩ : ∃ w1, w1 = w.setCell ⟨p, 0, none⟩ (.int .u64 (l1 : Nat)) := ⟨_, rfl⟩
          have hsz1 : w1.heap.size = w.heap.size := by rw [hw1]; simp [World.setCell]
          have hfw1 : Frm [p] w w1 := by rw [hw1]; exact (Frm.refl _ _).setCell (.inl (by simp)) _
          rw [← hw1] at hb1
          have hw1' : w.setCell ⟨p, 0, none⟩ (.int .u64 (l1 : Nat)) = w1 := hw1.symm
          obtain ⟨i0, hi, hz0, hz1, hz2⟩ := info_parts Try.info56
          have HI := Lib.hid hi; clear hi
          have HZ0 := Lib.hid hz0; clear hz0
          have HZ1 := Lib.hid hz1; clear hz1
          have HZ2 := Lib.hid hz2; clear hz2
          have HH := Lib.hid hb1
          have hpF : ∀ x ∈ p :: F, x < w1.heap.size := fun x hx => by
            rcases List.mem_cons.1 hx with rfl | h1
            · exact hb1.book.lt
            · rw [hsz1]; exact hF x h1
          have HPF := Lib.hid hpF
          obtain ⟨n, hnn⟩ : ∃ n, n = X.length := ⟨_, rfl⟩
          have HN := Lib.hid hnn
          have d0 := hb1.book.cell 0
          have d3 := hb1.book.cell 1
          rw [← hnn] at d3 c1
          simp at d0 d3
          have hn16 : ((n : Int) == 16) = false := by rw [beq_eq_false_iff_ne]; omega
          have hmm : ((last : Int) == 18446744073709551615) = false := by rw [beq_eq_false_iff_ne]; omega
          have VX := Lib.hid (fun (z : World) (hz : Frm [] w1 z) => (hb1.row.sl.keep (F' := p :: F) hz (by simp) (fun x h => .inl h)).vals)
          have HFX := Lib.hid hb1.row.fits
          have HNIL := Lib.hid hb1.row.caps.2.2
          have HLX : Hid ((snc X).length = n * 3) := Lib.hid (by rw [snc_length, hnn])
          have cp : ∀ z, Frm [] w1 z → z.cell? ⟨p, 1, none⟩ = some (.slice a n cap) ∧ z.cell? ⟨p, 0, none⟩ = some (.int .u64 (l1 : Nat)) := fun z hz => ⟨(hz.cell (block_lt_of_cell d3) (by simp)).trans d3, (hz.cell (block_lt_of_cell d0) (by simp)).trans d0⟩
          have FRZ := Lib.hid (fun (z : World) (hz : Frm [] w1 z) => (hz.whole HH.out.book (by simp)).free 1)
          have LIT := Lib.hid (fun (z : World) (hz : Frm [] w1 z) => slit (B := w1.heap.size) (G := p :: F) z hz.size (fun x hx => Nat.lt_of_lt_of_le (hpF x hx) hz.size))
          have LIT2 := Lib.hid (fun (z : World) (o : Obj) (hz : Frm [] w1 z) => slit2 (B := w1.heap.size) (G := p :: F) z o hz.size (fun x hx => Nat.lt_of_lt_of_le (hpF x hx) hz.size))
          have LIT3 := Lib.hid (fun (z : World) (o : Obj) (hz : Frm [] w1 z) => slit3 (B := w1.heap.size) (G := p :: F) z o hz.size (fun x hx => Nat.lt_of_lt_of_le (hpF x hx) hz.size))
          have hfit1 : 0 + n ≤ 1000000000 := by omega
          have hfit2 : n + 1 ≤ 1000000000 := by omega
          have f00 : Frm [] w1 w1.drew := (Frm.refl [] w1).drew
          have ce1 := fun o => cp (w1.alloc o) ((Frm.refl [] w1).alloc o)
          have ce2 := fun o o' => cp ((w1.alloc o).alloc o') (((Frm.refl [] w1).alloc o).alloc o')
          have HFW1 := Lib.hid hfw1
          clear hsz1
          have HX16 := Lib.hid hx16
          clear hc hr ht hX h hmax hb1 hs hl1' hw1 HSAME hlt hx16 h16 hpF hnn hF hfw1 hl1 hl2 hnow hlf
          go_enter Try.func12, Try.ntmps12
          go_wp2
          try rw [hw1']
          go_region_law (first
            | (go_simp; go_at_call 28; (with_reducible refine (HSU.out _).mono ?_); rintro e w' ⟨rfl, rfl⟩)
            | (refine step_appS (by rfl) (.tmp 36) (.tmp 40) 23 rfl w1.heap.size 56 i0 (.agg #[.int .u64 0, .int .u64 0, .int .u64 0]) 3 24 Try.underlying23 HI.out HZ0.out rfl (by decide) HZ1.out HZ2.out (by decide) _ 0 _ rfl (LIT.out w1.drew f00).own _ n cap _ rfl (VX.out _ (by repeat (first | exact f00 | exact Frm.refl _ _ | apply Frm.drew | apply Frm.alloc))) HLX.out (snc_one _) HNIL.out hfit1 (by refine Frm.size (S := []) (w := w1) ?_; repeat (first | exact f00 | exact Frm.refl _ _ | apply Frm.drew | apply Frm.alloc)) n (Nat.zero_add n) ?_; intro a8 c8 w8 happ8; have g8 := (LIT.out w1.drew f00).app (X := []) rfl HFX.out HN.out (fun x hx => Nat.lt_of_lt_of_le (HPF.out x hx) (by simp)) happ8; have O8 : Hid (SOwn w8 w1.heap.size 56 (p :: F) a8 c8 X) := (by have h := g8.1; rw [List.nil_append] at h; exact Lib.hid h); have T8 : Frm [] w1 w8 := frm_app3 (by repeat (first | exact f00 | exact Frm.refl _ _ | apply Frm.drew | apply Frm.alloc)) happ8 (fun g hg => by cases hg; first | exact Nat.le_refl _ | exact Nat.le_succ _); clear happ8 g8; have cp8 := cp _ T8; have cq8 := fun o => cp _ (T8.alloc o))
            | (refine step_appS (by rfl) (.tmp 36) (.tmp 40) 23 rfl w1.heap.size 56 i0 (.agg #[.int .u64 0, .int .u64 0, .int .u64 0]) 3 24 Try.underlying23 HI.out HZ0.out rfl (by decide) HZ1.out HZ2.out (by decide) _ 0 _ rfl (LIT2.out w1.drew _ f00).own _ n cap _ rfl (VX.out _ (by repeat (first | exact f00 | exact Frm.refl _ _ | apply Frm.drew | apply Frm.alloc))) HLX.out (snc_one _) HNIL.out hfit1 (by refine Frm.size (S := []) (w := w1) ?_; repeat (first | exact f00 | exact Frm.refl _ _ | apply Frm.drew | apply Frm.alloc)) n (Nat.zero_add n) ?_; intro a8 c8 w8 happ8; have g8 := (LIT2.out w1.drew _ f00).app (X := []) rfl HFX.out HN.out (fun x hx => Nat.lt_of_lt_of_le (HPF.out x hx) (by simp)) happ8; have O8 : Hid (SOwn w8 w1.heap.size 56 (p :: F) a8 c8 X) := (by have h := g8.1; rw [List.nil_append] at h; exact Lib.hid h); have T8 : Frm [] w1 w8 := frm_app3 (by repeat (first | exact f00 | exact Frm.refl _ _ | apply Frm.drew | apply Frm.alloc)) happ8 (fun g hg => by cases hg; first | exact Nat.le_refl _ | exact Nat.le_succ _); have H8 : Hid (ValsAt w8 (some ⟨_, 0, none⟩) (snc [⟨l1, s, life⟩])) := Lib.hid (ValsAt.keep (S := [w1.drew.heap.size]) (snvals_one _ ⟨l1, s, life⟩ _) ((Frm.refl [w1.drew.heap.size] _).grown happ8.grown (fun k hk => .inl (by cases hk; first | exact List.mem_singleton.2 rfl | simp))) (fun _ q hq => by cases hq; simp)); clear happ8 g8; have cp8 := cp _ T8; have cq8 := fun o => cp _ (T8.alloc o))
            | (refine step_appS (by rfl) (.tmp 36) (.tmp 40) 23 rfl w1.heap.size 56 i0 (.agg #[.int .u64 0, .int .u64 0, .int .u64 0]) 3 24 Try.underlying23 HI.out HZ0.out rfl (by decide) HZ1.out HZ2.out (by decide) _ 0 _ rfl (LIT3.out w1.drew _ f00).own _ n cap _ rfl (VX.out _ (by repeat (first | exact f00 | exact Frm.refl _ _ | apply Frm.drew | apply Frm.alloc))) HLX.out (snc_one _) HNIL.out hfit1 (by refine Frm.size (S := []) (w := w1) ?_; repeat (first | exact f00 | exact Frm.refl _ _ | apply Frm.drew | apply Frm.alloc)) n (Nat.zero_add n) ?_; intro a8 c8 w8 happ8; have g8 := (LIT3.out w1.drew _ f00).app (X := []) rfl HFX.out HN.out (fun x hx => Nat.lt_of_lt_of_le (HPF.out x hx) (by simp)) happ8; have O8 : Hid (SOwn w8 w1.heap.size 56 (p :: F) a8 c8 X) := (by have h := g8.1; rw [List.nil_append] at h; exact Lib.hid h); have T8 : Frm [] w1 w8 := frm_app3 (by repeat (first | exact f00 | exact Frm.refl _ _ | apply Frm.drew | apply Frm.alloc)) happ8 (fun g hg => by cases hg; first | exact Nat.le_refl _ | exact Nat.le_succ _); have H8 : Hid (ValsAt w8 (some ⟨_, 0, none⟩) (snc [⟨l1, s, life⟩])) := Lib.hid (ValsAt.keep (S := [w1.drew.heap.size + 1]) ((snvals_one w1.drew ⟨l1, s, life⟩ 56).keep (S := []) ((Frm.refl _ _).alloc _) (by simp)) ((Frm.refl [w1.drew.heap.size + 1] _).grown happ8.grown (fun k hk => .inl (by cases hk; first | exact List.mem_singleton.2 rfl | simp))) (fun _ q hq => by cases hq; simp)); clear happ8 g8; have cp8 := cp _ T8; have cq8 := fun o => cp _ (T8.alloc o))
            | (refine step_appS (by rfl) (.tmp 41) (.tmp 51) 23 rfl w1.heap.size 56 i0 (.agg #[.int .u64 0, .int .u64 0, .int .u64 0]) 3 24 Try.underlying23 HI.out HZ0.out rfl (by decide) HZ1.out HZ2.out (by decide) _ n (snc X) rfl (by have h := (O8.out).own; rw [← HN.out] at h; exact h) _ 1 1 (snc [⟨l1, s, life⟩]) rfl (H8.out) rfl (snc_one _) (fun h => by cases h) hfit2 (by refine Frm.size (S := []) (w := w1) ?_; repeat (first | exact T8 | apply Frm.drew | apply Frm.alloc)) (n + 1) rfl ?_; intro a9 c9 w9 happ9; have g9 := (O8.out).app HN.out HFS.out rfl (fun x hx => Nat.lt_of_lt_of_le (HPF.out x hx) (Frm.size (S := []) (w := w1) (by repeat (first | exact T8 | apply Frm.drew | apply Frm.alloc)))) happ9; have O9 : Hid (SOwn w9 w1.heap.size 56 (p :: F) a9 c9 (X ++ [⟨l1, s, life⟩])) := Lib.hid g9.1; have T9 : Frm [] w1 w9 := frm_app3 (by repeat (first | exact T8 | apply Frm.drew | apply Frm.alloc)) happ9 (fun g hg => (O8.out.blk_lt g (ownBlk3.1 hg)).1); clear happ9 g9; have cp9 := cp _ T9; have fp9 := FRZ.out _ T9)
            | (refine step_appS (by rfl) (.tmp 41) (.tmp 51) 23 rfl w1.heap.size 56 i0 (.agg #[.int .u64 0, .int .u64 0, .int .u64 0]) 3 24 Try.underlying23 HI.out HZ0.out rfl (by decide) HZ1.out HZ2.out (by decide) _ n (snc X) rfl (by have h := (O8.out.keep (S := []) (F := p :: F) (F' := p :: F) ((Frm.refl [] w8).alloc (.cells #[.int .u64 (l1 : Nat), .int .u64 (s : Nat), .int .u64 (life : Nat)] 56)) (by simp) (fun _ hx => .inl hx)).own; rw [← HN.out] at h; exact h) _ 1 1 (snc [⟨l1, s, life⟩]) rfl (snvals_one w8 ⟨l1, s, life⟩ _) rfl (snc_one _) (fun h => by cases h) hfit2 (by refine Frm.size (S := []) (w := w1) ?_; repeat (first | exact T8 | apply Frm.drew | apply Frm.alloc)) (n + 1) rfl ?_; intro a9 c9 w9 happ9; have g9 := (O8.out.keep (S := []) (F := p :: F) (F' := p :: F) ((Frm.refl [] w8).alloc (.cells #[.int .u64 (l1 : Nat), .int .u64 (s : Nat), .int .u64 (life : Nat)] 56)) (by simp) (fun _ hx => .inl hx)).app HN.out HFS.out rfl (fun x hx => Nat.lt_of_lt_of_le (HPF.out x hx) (Frm.size (S := []) (w := w1) (by repeat (first | exact T8 | apply Frm.drew | apply Frm.alloc)))) happ9; have O9 : Hid (SOwn w9 w1.heap.size 56 (p :: F) a9 c9 (X ++ [⟨l1, s, life⟩])) := Lib.hid g9.1; have T9 : Frm [] w1 w9 := frm_app3 (by repeat (first | exact T8 | apply Frm.drew | apply Frm.alloc)) happ9 (fun g hg => (O8.out.blk_lt g (ownBlk3.1 hg)).1); clear happ9 g9; have cp9 := cp _ T9; have fp9 := FRZ.out _ T9))
          all_goals
            have hst := Rb.store HH.out T9 O9.out (by rw [List.length_append, ← HN.out]; have := HX16.out; have := HN.out; simp; omega)
            obtain ⟨af, cf, hrb, hfr, _⟩ := hst
            rw [List.length_append, ← HN.out] at hrb hfr
            have HEND : Hid (∃ a' c', Rb (w9.setCell ⟨p, 1, none⟩ (.slice a9 (n + 1) c9)) B p F a' c' l1 (X ++ [⟨l1, s, life⟩]) ∧ Frm [p] w (w9.setCell ⟨p, 1, none⟩ (.slice a9 (n + 1) c9))) := Lib.hid ⟨af, cf, hrb, HFW1.out.trans hfr (fun x hx => hx) (fun x hx => .inl hx)⟩
            clear hrb hfr cp cp8 cq8 ce1 ce2 T8 T9 O8 O9
            go_wp2
            go_ret2
            exact ⟨rfl, HEND.out⟩
    · have hc : openC last X.length life = 63 := by unfold openC; rw [if_neg (fun h => hl2 h.2)]
      have hr : openR last X.length life = 0 := by unfold openR; rw [hc]; rfl
      have ht : openT last X.length life = last := by unfold openT; rw [hc]; rfl
      have hX : openS X last now life = X := by unfold openS; rw [hc]; rfl
      rw [hc, hr, ht, hX]
      have d1 : ((life : Int) == 0) = false := by rw [beq_eq_false_iff_ne]; omega
      have d2 : decide ((1099511627776 : Int) < (life : Int)) = true := decide_eq_true (by omega)
      clear hc hr ht hX h
      go_enter Try.func12, Try.ntmps12
      go_wp2
      go_ret2
      exact ⟨rfl, HSAME.out⟩
  · have hc : openC last X.length life = 63 := by unfold openC; rw [if_neg (fun h => hl1 h.1)]
    have hr : openR last X.length life = 0 := by unfold openR; rw [hc]; rfl
    have ht : openT last X.length life = last := by unfold openT; rw [hc]; rfl
    have hX : openS X last now life = X := by unfold openS; rw [hc]; rfl
    rw [hc, hr, ht, hX]
    obtain rfl : life = 0 := by omega
    clear hc hr ht hX h
    go_enter Try.func12, Try.ntmps12
    go_wp2
    go_ret2
    exact ⟨rfl, HSAME.out⟩
end Go.Proofs.Ytefplgligmkbiaa
