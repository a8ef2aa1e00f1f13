/- Contract of the document's Expire. -/
import Derived.Test.YtefplgligmkbiaaRbOps
import Derived.Test.YtefplgligmkbiaaRbSame
namespace Go.Proofs.Ytefplgligmkbiaa
open Go.RowKit

theorem Try.info22 : (Try.prog.info? 22).map (fun i => (i.zero, i.size, i.bytes)) = some (some (.int .u64 0), 1, 8) := by kernel_rfl
/-- Rows of different kinds lie apart. -/
theorem own_apart {w : World} {b1 b2 s1 s2 n1 n2 : Nat} {e1 e2 : TypeId} {v1 v2 : Value} {x1 x2 : List Value} (h1 : w.ownsRow b1 e1 s1 v1 n1 x1) (h2 : w.ownsRow b2 e2 s2 v2 n2 x2) (hne : e1 ≠ e2) : ∀ g, v1.ownBlock = some g → v2.ownBlock ≠ some g := by
  intro g hg
  rcases h1.2 with ⟨rfl, _⟩ | ⟨g', cap, cur, rfl, _, hh, _⟩
  · simp [Value.ownBlock] at hg
  · have : g' = g := by simpa [Value.ownBlock] using hg
    subst this
    exact own_ne h2 (t := e1) (cs := cur) hh (Ne.symm hne)
theorem SOwn.keepN {w w' : World} {base cap : Nat} {e : TypeId} {F S : List Nat} {a : Option Addr} {X : List Sn} (h : SOwn w base e F a cap X) (hf : Frm S w w') (hn : ∀ g ∈ blk a, g ∉ S) : SOwn w' base e F a cap X :=
  ⟨hf.own h.own (fun g hg => hn g (ownBlk3.1 hg)), h.fits, h.away⟩
theorem uvs_one (L : List Nat) : ∀ u ∈ uvs L, u.oneCell' = true := by
  intro u hu
  obtain ⟨n, _, rfl⟩ := List.mem_map.1 hu
  rfl
theorem uvs_append (L M : List Nat) : uvs (L ++ M) = uvs L ++ uvs M := by simp [uvs]
theorem goneS_y {now : Nat} {X : List Sn} {k : Nat} (h : k < X.length) (he : (X.getD k default).ends ≤ now) : goneS now (X.take (k + 1)) = goneS now (X.take k) ++ [(X.getD k default).id] ∧ leftS now (X.take (k + 1)) = leftS now (X.take k) := by
  rw [goneS_take h, leftS_take h, if_pos he, if_pos he, List.append_nil]; exact ⟨rfl, rfl⟩
theorem goneS_n {now : Nat} {X : List Sn} {k : Nat} (h : k < X.length) (he : ¬ (X.getD k default).ends ≤ now) : goneS now (X.take (k + 1)) = goneS now (X.take k) ∧ leftS now (X.take (k + 1)) = leftS now (X.take k) ++ [X.getD k default] := by
  rw [goneS_take h, leftS_take h, if_neg he, if_neg he, List.append_nil]; exact ⟨rfl, rfl⟩

/-- The loop of the document's Expire. -/
def RxRel (w : World) (p : Nat) (F : List Nat) (now : Nat) (X : List Sn) (s5 s6 s7 : Value) (wr : World) : Prop :=
  ∃ (k : Nat) (ga la : Option Addr) (gc lc gn ln : Nat), k ≤ X.length ∧ s7 = .int .i64 (k : Nat) ∧ s5 = .slice ga gn gc ∧ s6 = .slice la ln lc ∧ Hid (gn = (goneS now (X.take k)).length) ∧ Hid (ln = (leftS now (X.take k)).length) ∧
    Hid (wr.ownsRow w.heap.size 22 1 (.slice ga gn gc) gn (uvs (goneS now (X.take k)))) ∧ Hid (SOwn wr w.heap.size 56 (p :: F) la lc (leftS now (X.take k))) ∧ Hid (Frm [] w wr)
/-- What Expire answers and leaves. -/
def RxEnd (w : World) (B p : Nat) (F : List Nat) (last' : Nat) (X' : List Sn) (G : List Nat) (e : Ending) (w' : World) : Prop :=
  ∃ ga gc, e = .returned (.slice ga G.length gc) ∧ (∀ q, ga = some q → w.heap.size ≤ q.block) ∧ ValsAt w' ga (uvs G) ∧ (∃ a' c', Rb w' B p F a' c' last' X' ∧ Frm [p] w w')

set_option maxRecDepth 100000 in
set_option maxHeartbeats 4000000 in
theorem rexpire_any {w : World} {B p : Nat} {F : List Nat} {a : Option Addr} {cap last : Nat} {X : List Sn} (now : Nat) (h : Rb w B p F a cap last X) (hF : ∀ x ∈ F, x < w.heap.size) :
    Calls Try.prog 19 #[.pointer (some ⟨p, 0, none⟩), .int .u64 (now : Nat)] w (RxEnd w B p F last (leftS now X) (goneS now X)) := by
  obtain ⟨i0, hi, hz0, hz1, hz2⟩ := info_parts Try.info56
  have HI := Lib.hid hi; clear hi
  have HZ0 := Lib.hid hz0; clear hz0
  have HZ1 := Lib.hid hz1; clear hz1
  have HZ2 := Lib.hid hz2; clear hz2
  obtain ⟨i1, hi, hz0, hz1, hz2⟩ := info_parts Try.info22
  have UI := Lib.hid hi; clear hi
  have UZ0 := Lib.hid hz0; clear hz0
  have UZ1 := Lib.hid hz1; clear hz1
  have UZ2 := Lib.hid hz2; clear hz2
  have HH := Lib.hid h
  have hn16 := h.few
  obtain ⟨n, hnn⟩ : ∃ n, n = X.length := ⟨_, rfl⟩
  have HN := Lib.hid hnn
  rw [← hnn] at hn16
  have hpF : ∀ x ∈ p :: F, x < w.heap.size := fun x hx => by
    rcases List.mem_cons.1 hx with rfl | h1
    · exact HH.out.book.lt
    · exact hF x h1
  have HPF := Lib.hid hpF
  have C1 := Lib.hid (fun (z : World) (hz : Frm [] w z) => (show z.cell? ⟨p, 1, none⟩ = some (.slice a n cap) ∧ z.frozen? ⟨p, 1, none⟩ = false from ⟨by rw [(hz.whole h.book (by simp)).cell, hnn]; rfl, (hz.whole h.book (by simp)).free 1⟩))
  have h0 : RxRel w p F now X (.slice none 0 0) (.slice none 0 0) (.int .i64 0) w :=
    ⟨0, none, none, 0, 0, 0, 0, Nat.zero_le _, rfl, rfl, rfl, Lib.hid rfl, Lib.hid rfl, Lib.hid (World.ownsRow_nil _ _ _ _), Lib.hid (SOwn.nil _ _ _ _), Lib.hid (Frm.refl _ _)⟩
  have HR0 := Lib.hid h0
  clear h h0 hnn hpF hF
  go_enter Try.func19, Try.ntmps19
  go_wp2
  go_loopw [5, 6, 7] (fun s5 s6 s7 wr => RxRel w p F now X s5 s6 s7 wr) (fun _ _ s7 _ => n - (intOf s7).toNat)
  case atStart => exact HR0.out
  case round =>
    obtain ⟨k, ga, la, gc, lc, gn, ln, hk, rfl, rfl, rfl, HGN, HLN, HGO, HLO, HF⟩ := hrel
    obtain ⟨c1, f1⟩ := C1.out _ HF.out
    rw [← HN.out] at hk
    by_cases hlt : k < n
    · have hkX : k < X.length := by rw [← HN.out]; exact hlt
      obtain ⟨b, off, rfl, p0, p1, p2, hxf⟩ := (HH.out.row.sl.keep (F' := []) HF.out (by simp) (by simp)).at (i := k) hkX
      obtain ⟨x, hx⟩ : ∃ x, x = X.getD k default := ⟨_, rfl⟩
      rw [← hx] at p0 p1 p2 hxf
      have hgk : gn ≤ k := by rw [HGN.out]; exact goneS_len now X k
      have hlk : ln ≤ k := by rw [HLN.out]; exact leftS_len now X k
      by_cases hov : x.ends ≤ now
      · obtain ⟨e1, e2⟩ := goneS_y hkX (by rw [← hx]; exact hov)
        rw [← hx] at e1
        obtain ⟨xi, xe, xl⟩ := x
        simp only at p0 p1 p2 hov e1
        have E1 := Lib.hid e1
        have E2 := Lib.hid e2
        clear e1 e2 hx hkX
        have cA := (C1.out _ (HF.out.alloc (.cells #[.int .u64 (xi : Nat)] 22))).1
        go_wp2_with (at_builtin; refine wpList_appV rfl (.tmp 27) (.tmp 36) 44 rfl w.heap.size 22 i1 (.int .u64 0) 8 Try.underlying44 UI.out UZ0.out rfl UZ1.out UZ2.out (by decide) (.slice ga gn gc) gn _ rfl (World.ownsRow.alloc HGO.out _) (some ⟨wr.heap.size, 0, none⟩) 1 1 (uvs [xi]) rfl ?b1 rfl (uvs_one _) (fun h => by cases h) (by omega) (by have := HF.out.size; simp; omega) ?_)
        case b1 => exact .inr ⟨_, _, rfl, fun i u hu => by rw [(Whole.made wr _ _).cell, Nat.zero_add]; rw [← hu]; simp [uvs]⟩
        intro ga' gc' w5 happ
        have hf5 : Frm (blk ga) wr w5 := (((Frm.refl (blk ga) wr).alloc _).grown happ.grown (fun k hk => .inl (ownBlk3.1 hk)))
        have hown5 := happ.own
        rw [← uvs_append, ← E1.out] at hown5
        have hlo5 := HLO.out.keepN hf5 (fun g hg hm => own_apart HGO.out HLO.out.own (by decide) g (ownBlk3.2 hm) (ownBlk3.2 hg))
        rw [← E2.out] at hlo5
        have hfw5 : Frm [] w w5 := HF.out.trans hf5 (U := []) (by simp) (fun x hx => .inr (World.ownsRow.lt HGO.out x (ownBlk3.2 hx)).1)
        have G5 := Lib.hid hown5
        have L5 := Lib.hid hlo5
        have F5 := Lib.hid hfw5
        have N5 : Hid (gn + 1 = (goneS now (X.take (k + 1))).length) := Lib.hid (by rw [E1.out, List.length_append, ← HGN.out]; rfl)
        have M5 : Hid (ln = (leftS now (X.take (k + 1))).length) := Lib.hid (by rw [E2.out]; exact HLN.out)
        clear happ hf5 hown5 hlo5 hfw5 cA p0 p1 p2
        go_wp2
        go_roundw
        case rel => exact ⟨k + 1, ga', la, gc', lc, gn + 1, ln, by rw [← HN.out]; omega, by go_num, rfl, rfl, N5, M5, G5, L5, F5⟩
        case measure => simp [intOf]; omega
      · obtain ⟨e1, e2⟩ := goneS_n hkX (by rw [← hx]; exact hov)
        rw [← hx] at e2
        have hfx : ∀ y ∈ [x], y.fits := fun y hy => by simp at hy; subst hy; exact hxf
        have HFX := Lib.hid hfx
        obtain ⟨xi, xe, xl⟩ := x
        simp only at p0 p1 p2 hov
        have E1 := Lib.hid e1
        have E2 := Lib.hid e2
        clear e1 e2 hx hkX hfx
        have cA := (C1.out _ (HF.out.alloc (.cells #[.int .u64 (xi : Nat), .int .u64 (xe : Nat), .int .u64 (xl : Nat)] 56))).1
        have HLA := Lib.hid (HLO.out.keep (S := []) (F' := p :: F) ((Frm.refl [] wr).alloc (.cells #[.int .u64 (xi : Nat), .int .u64 (xe : Nat), .int .u64 (xl : Nat)] 56)) (by simp) (fun _ h => .inl h))
        have HLAO : Hid ((wr.alloc (.cells #[.int .u64 (xi : Nat), .int .u64 (xe : Nat), .int .u64 (xl : Nat)] 56)).ownsRow w.heap.size 56 3 (.slice la ln lc) ln (snc (leftS now (X.take k)))) := Lib.hid (by have h := HLA.out.own; rw [← HLN.out] at h; exact h)
        go_wp2_with (at_builtin; refine wpList_appS (by rfl) (.tmp 38) (.tmp 46) 23 rfl w.heap.size 56 i0 (.agg #[.int .u64 0, .int .u64 0, .int .u64 0]) 3 24 Try.underlying23 HI.out HZ0.out rfl (by decide) HZ1.out HZ2.out (by decide) (.slice la ln lc) ln _ rfl HLAO.out (some ⟨wr.heap.size, 0, none⟩) 1 1 (snc [⟨xi, xe, xl⟩]) rfl (snvals_one wr ⟨xi, xe, xl⟩ _) rfl (snc_one _) (fun h => by cases h) (by omega) (by have := HF.out.size; simp; omega) ?_)
        intro la' lc' w5 happ
        have g5 := HLA.out.app HLN.out HFX.out rfl (fun x hx => Nat.lt_of_lt_of_le (HPF.out x hx) (by have := HF.out.size; simp; omega)) happ
        rw [← E2.out] at g5
        have hf5 : Frm (blk la) wr w5 := (((Frm.refl (blk la) wr).alloc _).grown happ.grown (fun k hk => .inl (ownBlk3.1 hk)))
        have hgo5 := hf5.own HGO.out (fun g hg hm => own_apart HGO.out HLO.out.own (by decide) g hg (ownBlk3.2 hm))
        rw [← E1.out] at hgo5
        have hfw5 : Frm [] w w5 := HF.out.trans hf5 (U := []) (by simp) (fun x hx => .inr (HLO.out.blk_lt x hx).1)
        have G5 := Lib.hid hgo5
        have L5 := Lib.hid g5.1
        have F5 := Lib.hid hfw5
        have N5 : Hid (gn = (goneS now (X.take (k + 1))).length) := Lib.hid (by rw [E1.out]; exact HGN.out)
        have M5 : Hid (ln + 1 = (leftS now (X.take (k + 1))).length) := Lib.hid (by rw [E2.out, List.length_append, ← HLN.out]; rfl)
        clear happ g5 hf5 hgo5 hfw5 cA p0 p1 p2
        go_wp2
        go_roundw
        case rel => exact ⟨k + 1, ga, la', gc, lc', gn, ln + 1, by rw [← HN.out]; omega, by go_num, rfl, rfl, N5, M5, G5, L5, F5⟩
        case measure => simp [intOf]; omega
    · obtain rfl : k = n := by omega
      have et : X.take k = X := by rw [HN.out]; exact List.take_length
      rw [et] at HGN HLN HGO HLO
      have hl16 : (leftS now X).length ≤ 16 := by have := leftS_len now X k; rw [et] at this; omega
      have hst := Rb.store HH.out HF.out HLO.out hl16
      rw [← HLN.out] at hst
      have hfs : Frm [p] wr (wr.setCell ⟨p, 1, none⟩ (.slice la ln lc)) := (Frm.refl _ _).setCell (.inl (by simp)) _
      have hgv : ValsAt (wr.setCell ⟨p, 1, none⟩ (.slice la ln lc)) ga (uvs (goneS now X)) := own_vals (hfs.own HGO.out (fun g hg hm => by
        have h1 := (World.ownsRow.lt HGO.out g hg).1
        have h2 := HH.out.book.lt
        simp at hm
        omega))
      have HGA : Hid (∀ q, ga = some q → w.heap.size ≤ q.block) := Lib.hid (fun q hq => (World.ownsRow.lt HGO.out q.block (by rw [hq]; rfl)).1)
      have HS := Lib.hid hst
      have HV := Lib.hid hgv
      clear hst hfs hgv
      go_wp2
      go_ret
      obtain ⟨a', c', hrb, hfb, _⟩ := HS.out
      exact ⟨ga, gc, by rw [← HGN.out]; rfl, HGA.out, HV.out, a', c', hrb, hfb⟩
end Go.Proofs.Ytefplgligmkbiaa
