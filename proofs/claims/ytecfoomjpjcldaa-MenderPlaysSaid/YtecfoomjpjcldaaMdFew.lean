/- Contract of the law's few: a word of few entries. -/
import Derived.Test.YtecfoomjpjcldaaMdRow
import Derived.Test.YtecfoomjpjcldaaQuBase
import Derived.Test.YtecfoomjpjcldaaInWd
import Derived.RegionTactic
import Derived.BigRegion
namespace Go.Proofs.Ytecfoomjpjcldaa
open Go.RowKit
set_option maxRecDepth 100000
/-- The place that a word names, of few. -/
def fewP (P : Nat) (pl : Int) : Nat := (IntKind.u64.wrap pl).toNat % P
def fewE (x : Nat × List Nat) : Nat × List Nat := (x.1 % 6, [x.1 % 6, x.2.length / 40 % 256])
theorem u8_two (w : World) (x y : Nat) (hx : x < 256) (hy : y < 256) (t : TypeId) (m : Nat × Nat) : Bytes (w.alloc (.cells #[.int .u8 x, .int .u8 y] t m)) (some ⟨w.heap.size, 0, none⟩) [x, y] := by
  refine ⟨by simp [hx, hy], by simp, .inr ⟨_, _, rfl, fun i hi => ?_⟩⟩
  rw [cell_of_row _ w.heap.size _ #[.int .u8 (x : Int), .int .u8 (y : Int)] t m (heap_alloc_new w _)]
  match i, hi with
  | 0, _ => rfl
  | 1, _ => rfl
/-- What few answers. -/
def FewEnd (w : World) (F : List Nat) (P : Nat) (pl : Int) (su : Nat) (X : List Ix) (e : Ending) (w' : World) : Prop :=
  ∃ a c X', its X' = (its X).map fewE ∧ e = .returned (.agg #[.int .i64 (fewP P pl : Nat), .int .u64 (su % 4 : Nat), .slice a X.length c, .bool false]) ∧ IL w' F a X' ∧ Frm [] w w'
def FwRel (w0 : World) (F : List Nat) (n : Nat) (X : List Ix) (s5 s27 : Value) (wr : World) : Prop :=
  ∃ (a : Option Addr) (k c : Nat) (Y : List Ix), s5 = .slice a k c ∧ s27 = .int .i64 (k : Nat) ∧ k ≤ n ∧ Hid (k = Y.length) ∧ Hid (its Y = (its (X.take k)).map fewE) ∧ Hid (IOwn wr w0.heap.size 55 F a c Y) ∧ Hid (Frm [] w0 wr)
theorem its_take {X : List Ix} {k : Nat} (h : k < X.length) : its (X.take (k + 1)) = its (X.take k) ++ [(X.getD k default).t] := by
  have h1 : X.getD k default = X[k] := by rw [List.getD_eq_getElem?_getD, List.getElem?_eq_getElem h]; rfl
  rw [h1, List.take_succ_eq_append_getElem h]; unfold its; rw [List.map_append]; rfl
set_option maxHeartbeats 16000000 in
theorem few_any (pl : Int) (su : Nat) (la : Option Addr) (lc : Nat) (X : List Ix) (P W A : Nat) (w : World) (F : List Nat) (hX : IL w [] la X) (hP : 0 < P) (hP7 : P ≤ 7) (hsu : su < 18446744073709551616) (hl : X.length ≤ 30) (hF : ∀ x ∈ F, x < w.heap.size) :
    Calls Try.prog 25 #[.agg #[.int .i64 pl, .int .u64 (su : Nat), .slice la X.length lc, .bool false], quV P W A] w (FewEnd w F P pl su X) := by
  obtain ⟨i0, hinf, hz0, hz1, hz2⟩ := info_parts infoItM
  obtain ⟨n, hn⟩ : ∃ n, n = X.length := ⟨_, rfl⟩
  obtain ⟨Q, hQ⟩ : ∃ Q, Q = FewEnd w F P pl su X := ⟨_, rfl⟩
  rw [← hQ, ← hn]
  rw [← hn] at hl
  unfold quV
  have hu : IntKind.u64.wrap pl = (((IntKind.u64.wrap pl).toNat : Nat) : Int) := by simp [IntKind.wrap, IntKind.bits, IntKind.signed]; omega
  obtain ⟨up, hup⟩ : ∃ up, up = (IntKind.u64.wrap pl).toNat := ⟨_, rfl⟩
  rw [← hup] at hu
  have huP : IntKind.u64.wrap (P : Int) = (P : Int) := by simp [IntKind.wrap, IntKind.bits, IntKind.signed]; omega
  have b1 := modI up P
  have b2 : ((up % P : Nat) : Int) < 7 := by have := Nat.mod_lt up hP; omega
  have b3 : IntKind.i64.wrap ((up % P : Nat) : Int) = ((up % P : Nat) : Int) := IntWalk.i64_in _ (by omega)
  have b4 := modI su 4
  have hP0 : (P : Int) ≠ 0 := by omega
  have HUP := Lib.hid hup
  have HN := Lib.hid hn
  have HX := Lib.hid hX
  have HQ := Lib.hid hQ
  have HLOW := Lib.hid hF
  have HINF := Lib.hid hinf
  clear hup hn hX hQ hF hinf
  go_enter Try.func25, Try.ntmps25
  go_wp2
  go_region
  clear b1 b2 b3 b4 hu huP
  go_wp2_with fail
  obtain ⟨w0, hw0⟩ : ∃ w0, w0 = (((w.alloc (.cells #[.int .i64 ((up : Int) % (P : Int)), .int .u64 ((su : Int) % 4), .slice la n lc, .bool false] 67)).alloc (.cells #[.int .i64 (P : Int), .int .i64 (W : Int), .int .i64 (A : Int)] 23)).alloc (.cells #[.int .i64 0, .int .u64 0, .slice none 0 0, .bool false] 67)).drew := ⟨_, rfl⟩
  rw [← hw0]
  have hf0 : Frm [] w w0 := by rw [hw0]; exact ((((Frm.refl _ _).alloc _).alloc _).alloc _).drew
  have hW0 : Whole w0 w.heap.size 67 #[.int .i64 ((up : Int) % (P : Int)), .int .u64 ((su : Int) % 4), .slice la n lc, .bool false] := by rw [hw0]; exact (((Whole.made w _ _).alloc _).alloc _).drew
  have hW2 : Whole w0 (w.heap.size + 1 + 1) 67 #[.int .i64 0, .int .u64 0, .slice none 0 0, .bool false] := by
    rw [hw0]
    have := Whole.made ((w.alloc (.cells #[.int .i64 ((up : Int) % (P : Int)), .int .u64 ((su : Int) % 4), .slice la n lc, .bool false] 67)).alloc (.cells #[.int .i64 (P : Int), .int .i64 (W : Int), .int .i64 (A : Int)] 23)) 67 #[.int .i64 0, .int .u64 0, .slice none 0 0, .bool false]
    rw [World.size_alloc, World.size_alloc] at this
    exact this.drew
  have HF0 := Lib.hid hf0
  have HW0 := Lib.hid hW0
  have HW2 := Lib.hid hW2
  have HSZ : Hid (w.heap.size + 1 + 1 + 1 = w0.heap.size) := Lib.hid (by rw [hw0]; show _ = (World.alloc _ _).heap.size; simp)
  clear hw0 hf0 hW0 hW2
  obtain ⟨g, hg⟩ : ∃ g, g = w.heap.size := ⟨_, rfl⟩
  have HG := Lib.hid hg
  rw [← hg] at HW0 HW2 HSZ ⊢
  have HR0 : Hid (FwRel w0 (g :: (g + 1 + 1) :: F) n X (.slice none 0 0) (.int .i64 0) w0) := Lib.hid ⟨none, 0, 0, [], rfl, rfl, Nat.zero_le _, Lib.hid rfl, Lib.hid rfl, Lib.hid (IOwn.nil _ _ _ _), Lib.hid (Frm.refl _ _)⟩
  clear hg
  go_loopw [5, 27] (fun s5 s27 wr => FwRel w0 (g :: (g + 1 + 1) :: F) n X s5 s27 wr) (fun _ s27 _ => n - (intOf s27).toNat)
  case atStart => exact HR0.out
  case round =>
    clear HR0
    obtain ⟨a, k, c, Y, rfl, rfl, hk, HKY, HY, HO, HFR⟩ := hrel
    have hfw : Frm [] w wr := HF0.out.trans HFR.out (U := []) (by simp) (by simp)
    by_cases hlt : k < n
    · have hkX : k < X.length := by rw [← HN.out]; exact hlt
      obtain ⟨b, off, rfl, c0, c1, hix⟩ := HX.out.at hkX
      have htk := its_take hkX
      obtain ⟨x, hx⟩ : ∃ x, x = X.getD k default := ⟨_, rfl⟩
      rw [← hx] at c0 c1 hix htk
      obtain ⟨⟨e, d⟩, a1, cx⟩ := x
      clear hx
      have he := hix.num
      have hd63 := hix.bytes.2.1
      simp only at he c0 c1 htk hd63
      obtain ⟨dn, hdn⟩ : ∃ dn, dn = d.length := ⟨_, rfl⟩
      rw [← hdn] at c1 hd63
      have n0 := (hfw.cell (block_lt_of_cell c0) (by simp)).trans c0
      have n1 := (hfw.cell (block_lt_of_cell c1) (by simp)).trans c1
      have HTK := Lib.hid htk
      have HDN := Lib.hid hdn
      have HFW := Lib.hid hfw
      clear htk hix hkX c0 c1 hfw hdn
      obtain ⟨w1, hw1⟩ : ∃ w1, w1 = wr.alloc (.cells #[.int .u64 ((e : Int) % 6), .slice a1 dn cx] 55) := ⟨_, rfl⟩
      obtain ⟨w2, hw2⟩ : ∃ w2, w2 = w1.alloc (.cells #[.int .u8 ((e : Int) % 6), .int .u8 ((dn : Int) / 40 % 256)] 5) := ⟨_, rfl⟩
      obtain ⟨wA, hwA⟩ : ∃ wA, wA = w2.alloc (.cells #[.int .u64 ((e : Int) % 6), .slice (some ⟨wr.heap.size + 1, 0, none⟩) 2 2] 55) := ⟨_, rfl⟩
      have hf1 : Frm [] wr w1 := by rw [hw1]; exact (Frm.refl _ _).alloc _
      have hf2 : Frm [] w1 w2 := by rw [hw2]; exact (Frm.refl _ _).alloc _
      have hfA : Frm [] w2 wA := by rw [hwA]; exact (Frm.refl _ _).alloc _
      have hs1 : w1.heap.size = wr.heap.size + 1 := by rw [hw1]; simp
      have hs2 : w2.heap.size = wr.heap.size + 1 + 1 := by rw [hw2, World.size_alloc, hs1]
      have hb2 : Bytes w2 (some ⟨wr.heap.size + 1, 0, none⟩) [e % 6, dn / 40 % 256] := by
        rw [hw2, ← hs1]; exact u8_two w1 (e % 6) (dn / 40 % 256) (by omega) (by omega) _ _
      have hrA : Frm [] wr wA := (hf1.trans hf2 (U := []) (by simp) (by simp)).trans hfA (U := []) (by simp) (by simp)
      obtain ⟨y, hy⟩ : ∃ y : Ix, y = ⟨fewE (e, d), some ⟨wr.heap.size + 1, 0, none⟩, 2⟩ := ⟨_, rfl⟩
      have hyic : ic [y] = [.int .u64 ((e : Int) % 6), .slice (some ⟨wr.heap.size + 1, 0, none⟩) 2 2] := by
        rw [hy]; unfold fewE; simp [ic, Ix.cells]
      have HOWA : Hid (wA.ownsRow w0.heap.size 55 2 (.slice a k c) k (ic Y)) := Lib.hid (by
        have := (HO.out.keep hrA (F' := g :: (g + 1 + 1) :: F) (by simp) (fun x hx => .inl hx)).own
        rw [← HKY.out] at this; exact this)
      have HBA : Hid (w0.heap.size ≤ wA.heap.size) := Lib.hid (by have := HFR.out.size; have := hrA.size; omega)
      have HVA : Hid (ValsAt wA (some ⟨w2.heap.size, 0, none⟩) (ic [y])) := Lib.hid (by rw [hwA, hyic]; exact vals2M _ _ _ _ _)
      rw [hs2] at HVA
      have HQA : Hid (∀ (a' : Option Addr) (c1 : Nat) (w4 : World), AppS wA w4 w0.heap.size 55 2 (.slice a k c) k 1 (ic Y) (ic [y]) a' c1 → FwRel w0 (g :: (g + 1 + 1) :: F) n X (.slice a' (k + 1) c1) (.int .i64 ((k + 1 : Nat) : Nat)) w4) := Lib.hid fun a' c1 w4 happ => by
        have hbl := HO.out.blk_lt
        have hwr := HFR.out.size
        have hsz := HSZ.out
        have hgw := HG.out
        have hok : IOk wA (blk a ++ (g :: (g + 1 + 1) :: F)) [y] := by
          intro z hz
          simp only [List.mem_singleton] at hz
          subst hz
          rw [hy]
          refine ⟨hfA.bytes' (by rw [show (fewE (e, d)) = (e % 6, [e % 6, dn / 40 % 256]) by rw [HDN.out]; rfl]; exact hb2) (by simp), fun _ q hq hm => ?_, (by simp), (by show e % 6 < _; omega)⟩
          simp only [Option.some.injEq] at hq
          subst hq
          rcases List.mem_append.1 hm with h2 | h2
          · have := (hbl _ h2).2
            simp only at this; omega
          · simp only [List.mem_cons] at h2
            rcases h2 with h2 | h2 | h2
            · omega
            · omega
            · have := HLOW.out _ h2; have := HFW.out.size; omega
        have hlow : ∀ x ∈ (g :: (g + 1 + 1) :: F), x < wA.heap.size := fun x hx => by
          have := hrA.size
          simp only [List.mem_cons] at hx
          rcases hx with h2 | h2 | h2
          · omega
          · omega
          · have := HLOW.out _ h2; have := HFW.out.size; omega
        obtain ⟨g1, g2, g3, g4⟩ := (HO.out.keep hrA (F' := g :: (g + 1 + 1) :: F) (by simp) (fun x hx => .inl hx)).app HKY.out hok rfl hlow happ
        refine ⟨a', k + 1, c1, Y ++ [y], rfl, rfl, by omega, Lib.hid g4, Lib.hid ?_, Lib.hid g1, Lib.hid ((HFR.out.trans hrA (U := []) (by simp) (by simp)).trans g2 (by simp) (fun x hx => .inr (hbl x hx).1))⟩
        rw [HTK.out, List.map_append, ← HY.out, hy]; simp [its]
      have HWAE : Hid (((wr.alloc (.cells #[.int .u64 ((e : Int) % 6), .slice a1 dn cx] 55)).alloc (.cells #[.int .u8 ((e : Int) % 6), .int .u8 ((dn : Int) / 40 % 256)] 5)).alloc (.cells #[.int .u64 ((e : Int) % 6), .slice (some ⟨wr.heap.size + 1, 0, none⟩) 2 2] 55) = wA) := Lib.hid (by rw [hwA, hw2, hw1])
      clear hw1 hw2 hwA hf1 hf2 hfA hs1 hs2 hb2 hrA hy hyic
      go_wp2_with (at_builtin; rw [HWAE.out]; refine wpList_appS rfl (.tmp 35) (.tmp 48) 49 rfl w0.heap.size 55 i0 (.agg #[.int .u64 0, .slice none 0 0]) 2 32 Try.underlying49 HINF.out hz0 rfl (by omega) hz1 hz2 (by omega) (.slice a k c) k (ic Y) rfl HOWA.out (some ⟨wr.heap.size + 1 + 1, 0, none⟩) 1 1 (ic [y]) rfl HVA.out (by rw [ic_length]; rfl) (ic_one _) (fun h => by cases h) (by omega) HBA.out ?_; intro a' c1 w4 happ; have HREL := Lib.hid (HQA.out a' c1 w4 happ); clear happ)
      go_roundw
      case rel => exact HREL.out
      case measure => simp [intOf]; omega
    · obtain rfl : k = n := by omega
      have hY : its Y = (its X).map fewE := by rw [HY.out, List.take_of_length_le (by have := HN.out; omega)]
      have hW0 := HFR.out.whole HW0.out (by simp)
      have hW2 := HFR.out.whole HW2.out (by simp)
      have z0 := hW0.free 2
      have x0 := hW0.cell 0
      have x1 := hW0.cell 1
      have x2 := hW0.cell 2
      have x3 := hW0.cell 3
      have y0 := hW2.cell 0
      have y1 := hW2.cell 1
      have y2 := hW2.cell 2
      have y3 := hW2.cell 3
      have t0 := hW2.free 0
      have t1 := hW2.free 1
      have t2 := hW2.free 2
      have t3 := hW2.free 3
      simp at x0 x1 x2 x3 y0 y1 y2 y3
      have FIN : Hid (∀ z, Frm [g, g + 1 + 1] wr z → Q (.returned (.agg #[.int .i64 ((up : Int) % (P : Int)), .int .u64 ((su : Int) % 4), .slice a k c, .bool false])) z) := Lib.hid fun z hz => by
        rw [HQ.out]
        have hgw := HG.out
        refine ⟨a, c, Y, hY, ?_, (HO.out.keep hz (F' := F) (fun x hx => ?_) (fun x hx => .inl (by simp [hx]))).il, (HF0.out.trans HFR.out (U := []) (by simp) (by simp)).trans hz (by simp) (fun x hx => .inr ?_)⟩
        · rw [← HN.out]; unfold fewP; rw [← HUP.out]; simp
        · simp at hx; rcases hx with rfl | rfl <;> simp
        · simp at hx; rcases hx with rfl | rfl <;> omega
      have hgg : g ≠ g + 1 + 1 := by omega
      have HWF : Hid (Whole (((((wr.setCell ⟨g, 2, none⟩ (.slice a k c)).setCell ⟨g + 1 + 1, 0, none⟩ (.int .i64 ((up : Int) % (P : Int)))).setCell ⟨g + 1 + 1, 1, none⟩ (.int .u64 ((su : Int) % 4))).setCell ⟨g + 1 + 1, 2, none⟩ (.slice a k c)).setCell ⟨g + 1 + 1, 3, none⟩ (.bool false)) (g + 1 + 1) 67 #[.int .i64 ((up : Int) % (P : Int)), .int .u64 ((su : Int) % 4), .slice a k c, .bool false]) := Lib.hid (by
        have := ((((hW2.other (p := ⟨g, 2, none⟩) (fun h => hgg h.symm) (.slice a k c)).put 0 (.int .i64 ((up : Int) % (P : Int)))).put 1 (.int .u64 ((su : Int) % 4))).put 2 (.slice a k c)).put 3 (.bool false)
        simpa using this)
      have HFF : Hid (Frm [g, g + 1 + 1] wr (((((wr.setCell ⟨g, 2, none⟩ (.slice a k c)).setCell ⟨g + 1 + 1, 0, none⟩ (.int .i64 ((up : Int) % (P : Int)))).setCell ⟨g + 1 + 1, 1, none⟩ (.int .u64 ((su : Int) % 4))).setCell ⟨g + 1 + 1, 2, none⟩ (.slice a k c)).setCell ⟨g + 1 + 1, 3, none⟩ (.bool false))) := Lib.hid ((((((Frm.refl _ _).setCell (.inl (by simp)) _).setCell (.inl (by simp)) _).setCell (.inl (by simp)) _).setCell (.inl (by simp)) _).setCell (.inl (by simp)) _)
      clear hY hW0 hW2
      go_wp2
      refine bodyPost_ret (results_cell_row (P := Try.prog) rfl _ _ (g + 1 + 1) _ _ _ _ rfl HWF.out Try.underlying67 rfl (by kernel_rfl)) rfl ?_
      exact FIN.out _ HFF.out
end Go.Proofs.Ytecfoomjpjcldaa
