/- ShelfPlays: the walk. Written by wip/mk-shplays.py. -/
import Derived.Test.YtamcandcfainfaaGreatZDid9
import Derived.Test.YtamcandcfainfaaGreatZShows9
import Derived.Test.YtamcandcfainfaaGreatZShFew
import Derived.Test.YtamcandcfainfaaGreatMC
import Derived.Test.YtamcandcfainfaaGreatZHeld
import Derived.Test.YtamcandcfainfaaGreatZOpBs
import Derived.Deep.LoopGhost
namespace Go.Proofs.YtamcandcfainfaaGreat
open Go.RowKit
set_option maxRecDepth 100000
section
variable {w0 w w' : World} {Z : List Nat} {p dp q m room : Nat} {S : Nd9} {l : List Nat} {mm : Nat}
theorem t9_shows (i k : Nat) (h : T9 w0 w Z p dp q m room S l S l mm) (hi : i < N64) (hk : k < N64) (hm : mm ≤ 90000) :
    Calls Tryz.prog 10 #[.pointer (some ⟨p, 0, none⟩), .pointer (some ⟨q, 0, none⟩), .int .u64 (i : Nat), .int .u64 (k : Nat)] w fun e w' => e = .returned (.bool true) ∧ T9 w0 w' Z p dp q m room S l S l (mm + 1) ∧ Off w0 w w' Z := by
  refine shows9_any (w0 := w0) (dp := dp) (room := room) (mm := mm + 1) (S := S) (l := l) (fun z => T9 w0 z Z p dp q m room S l S l (mm + 1) ∧ Off w0 w z Z) i k hi hk (fun z z' h hf => ⟨h.1.same hf, h.2.trans (Off.here hf)⟩) (fun z h => ?_) (by omega) ?_
  · obtain ⟨⟨D, G, W, h1, _⟩, _⟩ := h
    exact ⟨D, h1⟩
  · refine (t9_rof i h hi (by omega)).mono ?_
    rintro e w' ⟨at', g, a, n, c, X, rn, rc, he, ht, h9⟩
    exact ⟨at', g, a, n, c, X, rn, rc, he, ht, h9⟩
/-- Both as they begin. -/
theorem t9_new (hk : Nv w0 w [] p dp nd0 [] room) (hr : room ≤ 16777216) :
    T9 w0 ((w.alloc (.cells #[.int .i64 (room : Nat), .int .i64 0, .slice none 0 0] 37)).alloc (.cells #[.slice none 0 0, .pointer (some ⟨w.heap.size, 0, none⟩)] 40)) [] p dp (w.heap.size + 1) w.heap.size room nd0 [] nd0 [] 0 := by
  obtain ⟨w1, hw1⟩ : ∃ w1, w1 = w.alloc (.cells #[.int .i64 (room : Nat), .int .i64 0, .slice none 0 0] 37) := ⟨_, rfl⟩
  have hs : w1.heap.size = w.heap.size + 1 := by rw [hw1]; simp
  have hR := Rf.zero w room hr w0.heap.size hk.frm.size
  rw [← hw1] at hR ⊢
  have hW := Whole.made w1 40 #[.slice none 0 0, .pointer (some ⟨w.heap.size, 0, none⟩)]
  rw [hs] at hW
  have hf : Frm [] w1 (w1.alloc (.cells #[.slice none 0 0, .pointer (some ⟨w.heap.size, 0, none⟩)] 40)) := (Frm.refl _ _).alloc _
  have hf1 : Frm [] w w1 := by rw [hw1]; exact (Frm.refl _ _).alloc _
  have hf2 := hf1.trans hf (U := []) (by simp) (by simp)
  have hB := hk.frm.size
  obtain ⟨w2, hw2⟩ : ∃ w2, w2 = w1.alloc (.cells #[.slice none 0 0, .pointer (some ⟨w.heap.size, 0, none⟩)] 40) := ⟨_, rfl⟩
  have hs2 : w2.heap.size = w.heap.size + 2 := by rw [hw2]; simp [hs]
  rw [← hw2] at hW hf hf2 ⊢
  refine ⟨nwB w w2, List.range w.heap.size, [w.heap.size + 1] ++ [w.heap.size], hk.keep hf2 (by simp) (fun x hx => .inr (mem_nwB.1 hx).1) (fun x hx => (mem_nwB.1 hx).2), ⟨none, 0, [], [w.heap.size], ⟨hW, World.ownsRow_nil _ _ _ _, by simp, List.Pairwise.nil, List.Pairwise.nil, fun g hg => ?_, Nat.le_refl _, by simp⟩, nodeOf_nil, hR.keep hf (by simp), fun x hx hm => ?_, by simp [rwB]⟩, fun x hx => ?_, fun x hx => ?_, fun x hx => ?_, by simp⟩
  · simp [rwB] at hg
    subst hg
    refine ⟨fun hm => ?_, by omega⟩
    rcases List.mem_append.1 hm with h | h
    · simp at h
    · have := List.mem_range.1 h; omega
  · simp at hx; subst hx; have := List.mem_range.1 hm; omega
  · refine mem_nwB.2 ?_
    simp at hx
    omega
  · by_cases hlt : x < w.heap.size
    · exact .inr (List.mem_range.2 hlt)
    · exact .inl (mem_nwB.2 ⟨by omega, hx⟩)
  · have := List.mem_range.1 hx; omega
end
def PlRel (w0 : World) (dp q m n room : Nat) (s39 s10 : Value) (wr : World) : Prop :=
  ∃ (j p : Nat) (S : Nd9) (l : List Nat), j ≤ n ∧ j ≤ 61 ∧ s39 = .int .i64 (j : Nat) ∧ s10 = .pointer (some ⟨p, 0, none⟩) ∧ Hid (T9 w0 wr [] p dp q m room S l S l (j * 6))
set_option maxHeartbeats 16000000 in
theorem shelfPlays_walk (r0 : Nat) (a0 : Option Addr) (n cap : Nat) (ts : List Sa) (a1 : Option Addr) (n1 c1 : Nat) (bs : List Bool) (w : World) (hr : r0 < 4294967296) (h : Sas w a0 ts) (hn : n = ts.length) (hn63 : n ≤ 9223372036854775807) (h1 : BIn w a1 bs) (e1 : n1 = bs.length) (_l1 : n1 ≤ 9223372036854775807) :
    Calls Tryz.prog 3 #[.int .u32 (r0 : Nat), .slice a0 n cap, .slice a1 n1 c1] w fun e w' => e = .returned (.bool true) ∧ Below w.heap.size w w' := by
  have HAW := Lib.hid (awake9_any w)
  have HN := Lib.hid hn
  have H := Lib.hid h
  have H1 := Lib.hid h1
  have E1 := Lib.hid e1
  obtain ⟨room, hroom⟩ : ∃ room, room = r0 % 1048576 := ⟨_, rfl⟩
  have hrl : room < 1048576 := by omega
  have hr1 : IntKind.i64.wrap (room : Int) = (room : Int) := by simp [IntKind.wrap, IntKind.bits, IntKind.signed]; omega
  have HR2 : Hid ((r0 : Int) % 1048576 = (room : Int)) := Lib.hid (by rw [hroom]; omega)
  have HDN := Lib.hid (fun w1 => new_ok room w1 (by omega))
  clear h hn h1 e1 hroom
  go_enter Tryz.func3, Tryz.ntmps3
  go_wp2_with fail
  (with_reducible refine HAW.out.mono ?_)
  rintro e w1 ⟨rfl, hb1⟩
  have HF1 := Lib.hid (Frm.ofBelow hb1); clear hb1 HAW
  go_wp2_with fail
  rw [HR2.out]
  (with_reducible refine (HDN.out _).mono ?_)
  rintro e w2 ⟨rfl, hd2, hf2, hz2⟩
  obtain ⟨dp, hdp⟩ : ∃ dp, dp = w1.heap.size := ⟨_, rfl⟩
  rw [← hdp] at hd2 ⊢
  have HO := Lib.hid (nv_new (w0 := w1) (room := room) [] hf2 (by rw [← hdp]; exact hd2) (by simp) (by simp))
  clear hd2 hf2 hz2 hdp HDN
  go_wp2_with fail
  (with_reducible refine HO.out.mono ?_)
  rintro e w3 ⟨p, rfl, hv3, _⟩
  have HTM := Lib.hid (t9_new hv3 (by omega))
  obtain ⟨w4, hw4⟩ : ∃ w4, w4 = (w3.alloc (.cells #[.int .i64 (room : Nat), .int .i64 0, .slice none 0 0] 37)).alloc (.cells #[.slice none 0 0, .pointer (some ⟨w3.heap.size, 0, none⟩)] 40) := ⟨_, rfl⟩
  obtain ⟨m, hm⟩ : ∃ m, m = w3.heap.size := ⟨_, rfl⟩
  obtain ⟨q, hq⟩ : ∃ q, q = w3.heap.size + 1 := ⟨_, rfl⟩
  rw [← hw4, ← hq, ← hm] at HTM
  have HR0 : Hid (PlRel w1 dp q m n room (.int .i64 (0 : Nat)) (.pointer (some ⟨p, 0, none⟩)) w4) := Lib.hid ⟨0, p, nd0, [], Nat.zero_le _, by omega, rfl, rfl, HTM⟩
  rw [← hm] at hw4
  have HW4 := Lib.hid hw4
  have HMM := Lib.hid hm
  have HQ := Lib.hid hq
  clear hv3 HO HTM hw4 hm hq
  go_wp2
  try rw [HR2.out]
  rw [← HQ.out, ← HMM.out, ← HW4.out]
  clear HW4 HQ HMM
  go_loopw [39, 10] (fun s39 s10 wr => PlRel w1 dp q m n room s39 s10 wr) (fun s39 _ _ => n - (intOf s39).toNat)
  case atStart => exact HR0.out
  case round =>
    clear HR0 HR2 hr1
    obtain ⟨j, p, S, l, hj, hj61, rfl, rfl, HT⟩ := hrel
    have HF := Lib.hid HT.out.frm
    by_cases hlt : j < n
    · obtain ⟨b, off, rfl, hin⟩ := (H.out.keep HF1.out) (by have := HN.out; omega)
      have hi := hin j (by have := HN.out; omega)
      obtain ⟨t, ht⟩ : ∃ t, t = ts.getD j default := ⟨_, rfl⟩
      rw [← ht] at hi
      have HOK := Lib.hid hi.ok
      obtain ⟨p0, p1, p2, p3, p4, p5, p6, hok⟩ := hi.keep HF.out
      clear hin ht hi
      obtain ⟨tk, tl, te, tr, tm, s0, da, dc, dd⟩ := t
      simp only at p0 p1 p2 p3 p4 p5 p6
      obtain ⟨dn, hdn⟩ : ∃ dn, dn = dd.length := ⟨_, rfl⟩
      rw [← hdn] at p6
      by_cases h60 : 60 < j
      · have hgt : decide ((60 : Int) < (j : Int)) = true := decide_eq_true (by omega)
        clear hok hdn
        go_wp2
        go_ret
        exact ⟨rfl, ((HF1.out.trans HF.out (U := []) (by simp) (by simp)).alloc _).below (by simp) (Nat.le_refl _)⟩
      · have hgt : decide ((60 : Int) < (j : Int)) = false := decide_eq_false (by omega)
        by_cases h500 : 500 < dn
        · have hgu : decide ((500 : Int) < (dn : Int)) = true := decide_eq_true (by omega)
          clear hok hdn
          go_wp2
          go_ret
          exact ⟨rfl, ((HF1.out.trans HF.out (U := []) (by simp) (by simp)).alloc _).below (by simp) (Nat.le_refl _)⟩
        · have hgu : decide ((500 : Int) < (dn : Int)) = false := decide_eq_false (by omega)
          obtain ⟨w4, hw4⟩ : ∃ w4, w4 = wr.alloc (.cells #[.int .u8 (tk : Nat), .int .u64 (tl : Nat), .int .u64 (te : Nat), .bool tr, .bool tm, .int .u64 (s0 : Nat), .slice da dn dc] 43) := ⟨_, rfl⟩
          obtain ⟨g, hg⟩ : ∃ g, g = wr.heap.size := ⟨_, rfl⟩
          have hW4 := Whole.made wr 43 #[.int .u8 (tk : Nat), .int .u64 (tl : Nat), .int .u64 (te : Nat), .bool tr, .bool tm, .int .u64 (s0 : Nat), .slice da dn dc]
          rw [← hw4, ← hg] at hW4
          have hf4 : Frm [] wr w4 := by rw [hw4]; exact (Frm.refl _ _).alloc _
          have HFW := few_any ⟨tk, tl, te, tr, tm, s0, da, dc, dd⟩ w4 (hok.keep hf4)
          unfold Sa.value at HFW
          dsimp only at HFW
          rw [← hdn] at HFW
          have hok2 := fewS_ok HOK.out
          have hfl := fewS_len ⟨tk, tl, te, tr, tm, s0, da, dc, dd⟩
          obtain ⟨t', ht'⟩ : ∃ t', t' = fewS ⟨tk, tl, te, tr, tm, s0, da, dc, dd⟩ := ⟨_, rfl⟩
          rw [← ht'] at HFW hok2 hfl
          have hlow : t'.data ≠ [] → ∀ y, t'.dataA = some y → y.block < w1.heap.size := fun hne y hy => bytes_lt hok2.data_b hne y hy
          have hsv : t'.data.length ≤ 500 := by simp only at hfl; omega
          have HOKT := Lib.hid hok2
          have HLOWT := Lib.hid hlow
          have HDIDF := Lib.hid (fun (z : World) (hz : T9 w1 z [g] p dp q m room S l S l (j * 6)) (hw : Frm [] w1 z) (hgz : g < z.heap.size) => did9_any t' hz (HOKT.out.keep hw) HLOWT.out hsv (by omega) (by simpa using hgz))
          unfold Sa.value Did9 at HDIDF
          obtain ⟨fk, fl, fe, fr', fm, fs, fa, fc, fd⟩ := t'
          simp only at hfl HDIDF
          obtain ⟨fn, hfn⟩ : ∃ fn, fn = fd.length := ⟨_, rfl⟩
          dsimp only at HFW
          rw [← hfn] at HFW HDIDF
          have HFW := Lib.hid HFW
          have HW4 := Lib.hid hw4
          have HG := Lib.hid hg
          have HWG := Lib.hid hW4
          have HF4 := Lib.hid hf4
          have hflt : fl < 18446744073709551616 := hok2.led_lt
          have hfet : fe < 18446744073709551616 := hok2.ent_lt
          clear hok hdn hfl ht' hfn hw4 hg hW4 hf4 hok2 HOK hlow hsv
          go_wp2_with fail
          rw [← HW4.out]
          (with_reducible refine HFW.out.mono ?_)
          rintro e w5 ⟨rfl, hf5⟩
          obtain ⟨w7, hw7⟩ : ∃ w7, w7 = ((((((w5.setCell ⟨g, 0, none⟩ (.int .u8 (fk : Nat))).setCell ⟨g, 1, none⟩ (.int .u64 (fl : Nat))).setCell ⟨g, 2, none⟩ (.int .u64 (fe : Nat))).setCell ⟨g, 3, none⟩ (.bool fr')).setCell ⟨g, 4, none⟩ (.bool fm)).setCell ⟨g, 5, none⟩ (.int .u64 (fs : Nat))).setCell ⟨g, 6, none⟩ (.slice fa fn fc) := ⟨_, rfl⟩
          have h5 := hf5.whole HWG.out (by simp)
          have h7 : Whole w7 g 43 #[.int .u8 (fk : Nat), .int .u64 (fl : Nat), .int .u64 (fe : Nat), .bool fr', .bool fm, .int .u64 (fs : Nat), .slice fa fn fc] := by
            have := ((((((h5.put 0 (.int .u8 (fk : Nat))).put 1 (.int .u64 (fl : Nat))).put 2 (.int .u64 (fe : Nat))).put 3 (.bool fr')).put 4 (.bool fm)).put 5 (.int .u64 (fs : Nat))).put 6 (.slice fa fn fc)
            rw [hw7]; simpa using this
          have hf7 : Frm [] wr w7 := by
            have h0 : Frm [] wr w5 := HF4.out.trans hf5 (U := []) (by simp) (by simp)
            have hg2 : wr.heap.size ≤ g := by have := HG.out; omega
            rw [hw7]
            exact ((((((h0.setCell (.inr hg2) _).setCell (.inr hg2) _).setCell (.inr hg2) _).setCell (.inr hg2) _).setCell (.inr hg2) _).setCell (.inr hg2) _).setCell (.inr hg2) _
          have HT7 : Hid (T9 w1 w7 [g] p dp q m room S l S l (j * 6)) := Lib.hid (HT.out.here hf7 (fun x hx => .inr (by simp at hx; subst hx; exact ⟨by have := HG.out; omega, h7.lt⟩)))
          have HF7 := Lib.hid (HF.out.trans hf7 (U := []) (by simp) (by simp))
          have HW7 := Lib.hid h7
          have HE7 := Lib.hid hw7
          have b0 := h5.cell 0
          have b1 := h5.cell 1
          have b2 := h5.cell 2
          have b3 := h5.cell 3
          have b4 := h5.cell 4
          have b5 := h5.cell 5
          have b6 := h5.cell 6
          have k0 := h5.free 0
          have k1 := h5.free 1
          have k2 := h5.free 2
          have k3 := h5.free 3
          have k4 := h5.free 4
          have k5 := h5.free 5
          have k6 := h5.free 6
          simp at b0 b1 b2 b3 b4 b5 b6
          have HDID := Lib.hid (fun z (hz : Frm [] w7 z) => HDIDF.out z (HT7.out.same hz) (HF7.out.trans hz (U := []) (by simp) (by simp)) (Nat.lt_of_lt_of_le HW7.out.lt hz.size))
          rw [← HG.out]
          clear hf5 h5 h7 hf7 hw7 HFW HDIDF p0 p1 p2 p3 p4 p5 p6
          go_wp2
          rw [← HE7.out]
          clear b0 b1 b2 b3 b4 b5 b6 k0 k1 k2 k3 k4 k5 k6
          have d0 : ∀ y, Off w1 w7 y [g] → y.cell? ⟨g, 0, none⟩ = some (.int .u8 (fk : Nat)) := fun y hy => (hy.whole9 HW7.out (by simp)).cell 0
          have d1 : ∀ y, Off w1 w7 y [g] → y.cell? ⟨g, 1, none⟩ = some (.int .u64 (fl : Nat)) := fun y hy => (hy.whole9 HW7.out (by simp)).cell 1
          have d2 : ∀ y, Off w1 w7 y [g] → y.cell? ⟨g, 2, none⟩ = some (.int .u64 (fe : Nat)) := fun y hy => (hy.whole9 HW7.out (by simp)).cell 2
          have d3 : ∀ y, Off w1 w7 y [g] → y.cell? ⟨g, 3, none⟩ = some (.bool fr') := fun y hy => (hy.whole9 HW7.out (by simp)).cell 3
          have d4 : ∀ y, Off w1 w7 y [g] → y.cell? ⟨g, 4, none⟩ = some (.bool fm) := fun y hy => (hy.whole9 HW7.out (by simp)).cell 4
          have d5 : ∀ y, Off w1 w7 y [g] → y.cell? ⟨g, 5, none⟩ = some (.int .u64 (fs : Nat)) := fun y hy => (hy.whole9 HW7.out (by simp)).cell 5
          have d6 : ∀ y, Off w1 w7 y [g] → y.cell? ⟨g, 6, none⟩ = some (.slice fa fn fc) := fun y hy => (hy.whole9 HW7.out (by simp)).cell 6
          have S0 : Off w1 w7 w7 [g] := Off.here (Frm.refl _ _)
          refine wp_region_held_drew (S := fun y => Off w1 w7 y [g]) (by kernel_rfl) (Off.here (Frm.refl _ _).drew) (fun hHeld => ?_)
          refine wpAnyH_take (i := 0) (oi := ⟨some 54, _, _, _, _, _⟩) (v := ?_) rfl (by kernel_rfl) (by kernel_rfl) (by kernel_rfl) (fun _ _ _ h => h) (Or.inl ⟨by rfl, ?_⟩) (by assumption) ?_
          rotate_left 1
          · (intro w hSw; (try dsimp only at hSw); go_simp; all_goals with_reducible rfl)
          try simp only [Act.put, List.setIfInBounds_toArray, List.set_cons_zero, List.set_cons_succ]
          refine wpAnyH_take (i := 1) (oi := ⟨some 55, _, _, _, _, _⟩) (v := ?_) rfl (by kernel_rfl) (by kernel_rfl) (by kernel_rfl) (fun _ _ _ h => h) (Or.inl ⟨by rfl, ?_⟩) (by assumption) ?_
          rotate_left 1
          · (intro w hSw; (try dsimp only at hSw); go_simp; all_goals with_reducible rfl)
          try simp only [Act.put, List.setIfInBounds_toArray, List.set_cons_zero, List.set_cons_succ]
          refine wpAnyH_take (i := 2) (oi := ⟨some 56, _, _, _, _, _⟩) (v := ?_) rfl (by kernel_rfl) (by kernel_rfl) (by kernel_rfl) (fun _ _ _ h => h) (Or.inl ⟨by rfl, ?_⟩) (by assumption) ?_
          rotate_left 1
          · (intro w hSw; (try dsimp only at hSw); go_simp; all_goals with_reducible rfl)
          try simp only [Act.put, List.setIfInBounds_toArray, List.set_cons_zero, List.set_cons_succ]
          refine wpAnyH_ready (rs := [3]) (by kernel_rfl) (by simp) ?_
          refine AllReadyH.cons (o := ⟨some 57, _, _, _, _, _⟩) rfl (fun K hK => ?_) AllReadyH.nil
          go_simp
          (go_at_call 9; (refine (HDID.out _ (Frm.refl [] w7).drew).mono ?_); rintro e w8 ⟨rfl, S', l', ht8, ho8⟩; have S1 : Off w1 w7 w8 [g] := Off.trans (Off.here (Frm.refl [] w7).drew) ho8; have HSH := Lib.hid (t9_shows fl fe ht8 hflt hfet (by omega)))
          go_wp2_with fail
          refine hK.out _ _ (by assumption) (fun hHeld => ?_)
          clear hK K
          try simp only [Act.put, List.setIfInBounds_toArray, List.set_cons_zero, List.set_cons_succ]
          refine wpAnyH_take (i := 4) (oi := ⟨some 58, _, _, _, _, _⟩) (v := ?_) rfl (by kernel_rfl) (by kernel_rfl) (by kernel_rfl) (fun _ _ _ h => h) (Or.inl ⟨by rfl, ?_⟩) (by assumption) ?_
          rotate_left 1
          · (intro w hSw; (try dsimp only at hSw); go_simp; all_goals with_reducible rfl)
          try simp only [Act.put, List.setIfInBounds_toArray, List.set_cons_zero, List.set_cons_succ]
          refine wpAnyH_take (i := 5) (oi := ⟨some 59, _, _, _, _, _⟩) (v := ?_) rfl (by kernel_rfl) (by kernel_rfl) (by kernel_rfl) (fun _ _ _ h => h) (Or.inl ⟨by rfl, ?_⟩) (by assumption) ?_
          rotate_left 1
          · (intro w hSw; (try dsimp only at hSw); go_simp; all_goals with_reducible rfl)
          try simp only [Act.put, List.setIfInBounds_toArray, List.set_cons_zero, List.set_cons_succ]
          refine wpAnyH_take (i := 6) (oi := ⟨some 60, _, _, _, _, _⟩) (v := ?_) rfl (by kernel_rfl) (by kernel_rfl) (by kernel_rfl) (fun _ _ _ h => h) (Or.inl ⟨by rfl, ?_⟩) (by assumption) ?_
          rotate_left 1
          · (intro w hSw; (try dsimp only at hSw); go_simp; all_goals with_reducible rfl)
          try simp only [Act.put, List.setIfInBounds_toArray, List.set_cons_zero, List.set_cons_succ]
          refine wpAnyH_take (i := 7) (oi := ⟨some 61, _, _, _, _, _⟩) (v := ?_) rfl (by kernel_rfl) (by kernel_rfl) (by kernel_rfl) (fun _ _ _ h => h) (Or.inl ⟨by rfl, ?_⟩) (by assumption) ?_
          rotate_left 1
          · (intro w hSw; (try dsimp only at hSw); go_simp; all_goals with_reducible rfl)
          try simp only [Act.put, List.setIfInBounds_toArray, List.set_cons_zero, List.set_cons_succ]
          refine wpAnyH_take (i := 8) (oi := ⟨some 62, _, _, _, _, _⟩) (v := ?_) rfl (by kernel_rfl) (by kernel_rfl) (by kernel_rfl) (fun _ _ _ h => h) (Or.inl ⟨by rfl, ?_⟩) (by assumption) ?_
          rotate_left 1
          · (intro w hSw; (try dsimp only at hSw); go_simp; all_goals with_reducible rfl)
          try simp only [Act.put, List.setIfInBounds_toArray, List.set_cons_zero, List.set_cons_succ]
          refine wpAnyH_take (i := 9) (oi := ⟨some 63, _, _, _, _, _⟩) (v := ?_) rfl (by kernel_rfl) (by kernel_rfl) (by kernel_rfl) (fun _ _ _ h => h) (Or.inl ⟨by rfl, ?_⟩) (by assumption) ?_
          rotate_left 1
          · (intro w hSw; (try dsimp only at hSw); go_simp; all_goals with_reducible rfl)
          try simp only [Act.put, List.setIfInBounds_toArray, List.set_cons_zero, List.set_cons_succ]
          refine wpAnyH_take (i := 10) (oi := ⟨some 64, _, _, _, _, _⟩) (v := ?_) rfl (by kernel_rfl) (by kernel_rfl) (by kernel_rfl) (fun _ _ _ h => h) (Or.inl ⟨by rfl, ?_⟩) (by assumption) ?_
          rotate_left 1
          · (intro w hSw; (try dsimp only at hSw); go_simp; all_goals with_reducible rfl)
          try simp only [Act.put, List.setIfInBounds_toArray, List.set_cons_zero, List.set_cons_succ]
          refine wpAnyH_take (i := 11) (oi := ⟨some 65, _, _, _, _, _⟩) (v := ?_) rfl (by kernel_rfl) (by kernel_rfl) (by kernel_rfl) (fun _ _ _ h => h) (Or.inl ⟨by rfl, ?_⟩) (by assumption) ?_
          rotate_left 1
          · (intro w hSw; (try dsimp only at hSw); go_simp; all_goals with_reducible rfl)
          try simp only [Act.put, List.setIfInBounds_toArray, List.set_cons_zero, List.set_cons_succ]
          refine wpAnyH_ready (rs := [12]) (by kernel_rfl) (by simp) ?_
          refine AllReadyH.cons (o := ⟨some 66, _, _, _, _, _⟩) rfl (fun K hK => ?_) AllReadyH.nil
          go_simp
          (go_at_call 10; (refine (HSH.out).mono ?_); rintro e wa ⟨rfl, hta, hoa⟩; have S2 : Off w1 w7 wa [g] := S1.trans hoa; have HTa := Lib.hid hta; have HOa := Lib.hid S2; clear hta hoa ht8 ho8 HSH)
          go_wp2_with fail
          refine hK.out _ _ (by assumption) (fun hHeld => ?_)
          clear hK K
          try simp only [Act.put, List.setIfInBounds_toArray, List.set_cons_zero, List.set_cons_succ]
          refine wpAnyH_take (i := 13) (oi := ⟨some 67, _, _, _, _, _⟩) (v := ?_) rfl (by kernel_rfl) (by kernel_rfl) (by kernel_rfl) (fun _ _ _ h => h) (Or.inl ⟨by rfl, ?_⟩) (by assumption) ?_
          rotate_left 1
          · (intro w hSw; (try dsimp only at hSw); go_simp; all_goals with_reducible rfl)
          try simp only [Act.put, List.setIfInBounds_toArray, List.set_cons_zero, List.set_cons_succ]
          refine wpAnyH_take (i := 14) (oi := ⟨some 68, _, _, _, _, _⟩) (v := ?_) rfl (by kernel_rfl) (by kernel_rfl) (by kernel_rfl) (fun _ _ _ h => h) (Or.inl ⟨by rfl, ?_⟩) (by assumption) ?_
          rotate_left 1
          · (intro w hSw; (try dsimp only at hSw); go_simp; all_goals with_reducible rfl)
          try simp only [Act.put, List.setIfInBounds_toArray, List.set_cons_zero, List.set_cons_succ]
          refine wpAnyH_take (i := 15) (oi := ⟨some 69, _, _, _, _, _⟩) (v := ?_) rfl (by kernel_rfl) (by kernel_rfl) (by kernel_rfl) (fun _ _ _ h => h) (Or.inl ⟨by rfl, ?_⟩) (by assumption) ?_
          rotate_left 1
          · (intro w hSw; (try dsimp only at hSw); go_simp; all_goals with_reducible rfl)
          try simp only [Act.put, List.setIfInBounds_toArray, List.set_cons_zero, List.set_cons_succ]
          refine wpAnyH_take (i := 16) (oi := ⟨some 70, _, _, _, _, _⟩) (v := ?_) rfl (by kernel_rfl) (by kernel_rfl) (by kernel_rfl) (fun _ _ _ h => h) (Or.inl ⟨by rfl, ?_⟩) (by assumption) ?_
          rotate_left 1
          · (intro w hSw; (try dsimp only at hSw); go_simp; all_goals with_reducible rfl)
          try simp only [Act.put, List.setIfInBounds_toArray, List.set_cons_zero, List.set_cons_succ]
          obtain ⟨da, dc9, hdoc⟩ := t9_doc HTa.out
          obtain ⟨n8, hn8⟩ : ∃ n8, n8 = l'.length := ⟨_, rfl⟩
          have HN8 := Lib.hid hn8
          rw [← hn8] at hdoc
          have HDOC := Lib.hid hdoc
          have HBY := Lib.hid (fun (z : World) (hz : Frm [] wa z) => (t9_bytes (HTa.out.same hz)).mono (fun e w' h => (show ∃ ab cb2, e = .returned (.slice ab n8 cb2) ∧ (Go.convert 35 9 (.slice ab n8 cb2)).run Tryz.prog w' = .ok (.string (strOf l')) w' ∧ Frm [] z w' from by
            obtain ⟨ab, cb2, he, ho, hf⟩ := h
            rw [← hn8] at he
            exact ⟨ab, cb2, he, run_to_string (P := Tryz.prog) (src := 35) (dst := 9) (e := 5) Tryz.underlying35 Tryz.underlying5 Tryz.underlying9 ho hn8, hf⟩)))
          have x1 : ∀ y, Frm [] wa y → y.cell? ⟨q, 1, none⟩ = some (.pointer (some ⟨m, 0, none⟩)) := fun y hy => (HDOC.out y hy).1
          have x2 : ∀ y, Frm [] wa y → y.cell? ⟨m, 2, none⟩ = some (.slice da n8 dc9) := fun y hy => (HDOC.out y hy).2.1
          have cvd : ∀ y, Frm [] wa y → (Go.convert 35 9 (.slice da n8 dc9)).run Tryz.prog y = .ok (.string (strOf l')) y := fun y hy =>
            run_to_string (P := Tryz.prog) (src := 35) (dst := 9) (e := 5) Tryz.underlying35 Tryz.underlying5 Tryz.underlying9 (HDOC.out y hy).2.2 HN8.out
          have heq : (((strOf l').toList != (strOf l').toList) = false) := by simp
          have S4 : Frm [] wa wa := Frm.refl _ _
          clear hdoc hn8 d0 d1 d2 d3 d4 d5 d6 HDID
          refine wpAnyH_imp (S2 := fun y => Frm [] wa y) (fun y hy => HOa.out.trans (Off.here hy)) _ _ _ _ ?_
          refine wpAnyH_take (i := 19) (oi := ⟨some 73, _, _, _, _, _⟩) (v := ?_) rfl (by kernel_rfl) (by kernel_rfl) (by kernel_rfl) (fun _ _ _ h => h) (Or.inl ⟨by rfl, ?_⟩) (by assumption) ?_
          rotate_left 1
          · (intro w hSw; (try dsimp only at hSw); go_simp; all_goals with_reducible rfl)
          try simp only [Act.put, List.setIfInBounds_toArray, List.set_cons_zero, List.set_cons_succ]
          refine wpAnyH_take (i := 20) (oi := ⟨some 74, _, _, _, _, _⟩) (v := ?_) rfl (by kernel_rfl) (by kernel_rfl) (by kernel_rfl) (fun _ _ _ h => h) (Or.inl ⟨by rfl, ?_⟩) (by assumption) ?_
          rotate_left 1
          · (intro w hSw; (try dsimp only at hSw); go_simp; all_goals with_reducible rfl)
          try simp only [Act.put, List.setIfInBounds_toArray, List.set_cons_zero, List.set_cons_succ]
          refine wpAnyH_take (i := 21) (oi := ⟨some 75, _, _, _, _, _⟩) (v := ?_) rfl (by kernel_rfl) (by kernel_rfl) (by kernel_rfl) (fun _ _ _ h => h) (Or.inl ⟨by rfl, ?_⟩) (by assumption) ?_
          rotate_left 1
          · (intro w hSw; (try dsimp only at hSw); go_simp; all_goals with_reducible rfl)
          try simp only [Act.put, List.setIfInBounds_toArray, List.set_cons_zero, List.set_cons_succ]
          refine wpAnyH_take (i := 22) (oi := ⟨some 76, _, _, _, _, _⟩) (v := ?_) rfl (by kernel_rfl) (by kernel_rfl) (by kernel_rfl) (fun _ _ _ h => h) (Or.inl ⟨by rfl, ?_⟩) (by assumption) ?_
          rotate_left 1
          · (intro w hSw; (try dsimp only at hSw); go_simp; all_goals with_reducible rfl)
          try simp only [Act.put, List.setIfInBounds_toArray, List.set_cons_zero, List.set_cons_succ]
          refine wpAnyH_take (i := 23) (oi := ⟨some 77, _, _, _, _, _⟩) (v := ?_) rfl (by kernel_rfl) (by kernel_rfl) (by kernel_rfl) (fun _ _ _ h => h) (Or.inl ⟨by rfl, ?_⟩) (by assumption) ?_
          rotate_left 1
          · (intro w hSw; (try dsimp only at hSw); go_simp; all_goals with_reducible rfl)
          try simp only [Act.put, List.setIfInBounds_toArray, List.set_cons_zero, List.set_cons_succ]
          refine wpAnyH_take (i := 24) (oi := ⟨some 78, _, _, _, _, _⟩) (v := ?_) rfl (by kernel_rfl) (by kernel_rfl) (by kernel_rfl) (fun _ _ _ h => h) (Or.inl ⟨by rfl, ?_⟩) (by assumption) ?_
          rotate_left 1
          · (intro w hSw; (try dsimp only at hSw); go_simp; all_goals with_reducible rfl)
          try simp only [Act.put, List.setIfInBounds_toArray, List.set_cons_zero, List.set_cons_succ]
          refine wpAnyH_take (i := 25) (oi := ⟨some 79, _, _, _, _, _⟩) (v := ?_) rfl (by kernel_rfl) (by kernel_rfl) (by kernel_rfl) (fun _ _ _ h => h) (Or.inl ⟨by rfl, ?_⟩) (by assumption) ?_
          rotate_left 1
          · (intro w hSw; (try dsimp only at hSw); go_simp; all_goals with_reducible rfl)
          try simp only [Act.put, List.setIfInBounds_toArray, List.set_cons_zero, List.set_cons_succ]
          refine wpAnyH_take (i := 26) (oi := ⟨some 80, _, _, _, _, _⟩) (v := ?_) rfl (by kernel_rfl) (by kernel_rfl) (by kernel_rfl) (fun _ _ _ h => h) (Or.inl ⟨by rfl, ?_⟩) (by assumption) ?_
          rotate_left 1
          · (intro w hSw; (try dsimp only at hSw); go_simp; all_goals with_reducible rfl)
          try simp only [Act.put, List.setIfInBounds_toArray, List.set_cons_zero, List.set_cons_succ]
          refine wpAnyH_ready (rs := [17]) (by kernel_rfl) (by simp) ?_
          refine AllReadyH.cons (o := ⟨some 71, _, _, _, _, _⟩) rfl (fun K hK => ?_) AllReadyH.nil
          go_simp
          (go_at_call 11; (refine (HBY.out _ (Frm.refl [] wa)).mono ?_); rintro e wd ⟨ab, cb2, rfl, hcv2, hfd⟩; have S3 : Frm [] wa wd := hfd; clear hfd)
          go_wp2_with fail
          refine hK.out _ _ (by assumption) (fun hHeld => ?_)
          clear hK K
          try simp only [Act.put, List.setIfInBounds_toArray, List.set_cons_zero, List.set_cons_succ]
          refine wpAnyH_ready (rs := [18]) (by kernel_rfl) (by simp) ?_
          refine AllReadyH.cons (o := ⟨some 72, _, _, _, _, _⟩) rfl (fun K hK => ?_) AllReadyH.nil
          go_simp
          refine hK.out _ _ (by assumption) (fun hHeld => ?_)
          clear hK K
          try simp only [Act.put, List.setIfInBounds_toArray, List.set_cons_zero, List.set_cons_succ]
          refine wpAnyH_take (i := 27) (oi := ⟨some 81, _, _, _, _, _⟩) (v := ?_) rfl (by kernel_rfl) (by kernel_rfl) (by kernel_rfl) (fun _ _ _ h => h) (Or.inl ⟨by rfl, ?_⟩) (by assumption) ?_
          rotate_left 1
          · (intro w hSw; (try dsimp only at hSw); go_simp; all_goals with_reducible rfl)
          try simp only [Act.put, List.setIfInBounds_toArray, List.set_cons_zero, List.set_cons_succ]
          refine wpAnyH_take (i := 28) (oi := ⟨some 82, _, _, _, _, _⟩) (v := ?_) rfl (by kernel_rfl) (by kernel_rfl) (by kernel_rfl) (fun _ _ _ h => h) (Or.inl ⟨by rfl, ?_⟩) (by assumption) ?_
          rotate_left 1
          · (intro w hSw; (try dsimp only at hSw); go_simp; all_goals with_reducible rfl)
          try simp only [Act.put, List.setIfInBounds_toArray, List.set_cons_zero, List.set_cons_succ]
          refine wpAnyH_done (by kernel_rfl) ?_ _
          clear x1 x2 cvd heq
          have HT9 := Lib.hid (HTa.out.same S3)
          obtain ⟨x5, y5, hx5⟩ : ∃ x1 y1, (¬ j < n1 ∨ (j < n1 ∧ a1 = some ⟨x1, y1, none⟩ ∧ wd.cell? ⟨x1, y1 + j, none⟩ = some (.bool false))) ∨ (j < n1 ∧ a1 = some ⟨x1, y1, none⟩ ∧ wd.cell? ⟨x1, y1 + j, none⟩ = some (.bool true)) := by
            by_cases hl : j < n1
            · obtain ⟨b1, o1, h1, h2⟩ := (H1.out.keep (HF1.out.trans HT9.out.frm (U := []) (by simp) (by simp))) j (by have := E1.out; omega)
              cases hv : bs.getD j false
              · rw [hv] at h2; exact ⟨b1, o1, .inl (.inr ⟨hl, h1, h2⟩)⟩
              · rw [hv] at h2; exact ⟨b1, o1, .inr ⟨hl, h1, h2⟩⟩
            · exact ⟨0, 0, .inl (.inl hl)⟩
          have HREL0 : Hid (∀ z, Frm [] wd z → PlRel w1 dp q m n room (.int .i64 ((j + 1 : Nat) : Nat)) (.pointer (some ⟨p, 0, none⟩)) z) := Lib.hid fun z hz => ⟨j + 1, p, S', l', hlt, by omega, rfl, rfl, Lib.hid (((HT9.out.less (Z' := []) (by simp)).same hz).more (by omega))⟩
          have HGD : Hid (Whole wd g 43 #[.int .u8 (fk : Nat), .int .u64 (fl : Nat), .int .u64 (fe : Nat), .bool fr', .bool fm, .int .u64 (fs : Nat), .slice fa fn fc]) := Lib.hid (S3.whole (HOa.out.whole9 HW7.out (by simp)) (by simp))
          have HCR := Lib.hid (t9_crash (j : Int) (j : Int) HT9.out)
          clear S0 S1 S2 S3
          rcases hx5 with (hl | ⟨hl, ha1, hc1⟩) | ⟨hl, ha1, hc1⟩
          · have hge : decide ((j : Int) < (n1 : Int)) = false := decide_eq_false (by omega)
            have hge2 : decide (j < n1) = false := decide_eq_false hl
            go_wp2
            go_roundw
            case rel => exact HREL0.out _ (Frm.refl _ _)
            case measure => simp [intOf]; omega
          · subst ha1
            have hge : decide ((j : Int) < (n1 : Int)) = true := decide_eq_true (by omega)
            have hge2 : decide (j < n1) = true := decide_eq_true hl
            go_wp2
            go_roundw
            case rel => exact HREL0.out _ (Frm.refl _ _)
            case measure => simp [intOf]; omega
          · subst ha1
            have hge : decide ((j : Int) < (n1 : Int)) = true := decide_eq_true (by omega)
            have hge2 : decide (j < n1) = true := decide_eq_true hl
            go_wp2_with fail
            (with_reducible refine HCR.out.mono ?_)
            rintro e we ⟨rfl, htd, hoe⟩
            have HOP := Lib.hid (td9_open htd)
            have HWE := Lib.hid (hoe.whole9 HGD.out (by simp))
            clear htd hoe HCR hc1
            go_wp2_with fail
            (with_reducible refine HOP.out.mono ?_)
            rintro e wf ⟨p2, rfl, htf, hof⟩
            have hWF := hof.whole9 HWE.out (by simp)
            have f1 := hWF.cell 1
            have f2 := hWF.cell 2
            simp at f1 f2
            have HWF := Lib.hid hWF
            have HSF := Lib.hid (t9_shows fl fe htf hflt hfet (by omega))
            clear htf hof hWF HOP
            go_wp2_with fail
            (with_reducible refine HSF.out.mono ?_)
            rintro e wg ⟨rfl, htg, hog⟩
            have HSG := t9_shows 1 0 htg (by decide) (by decide) (by omega)
            rw [show ((1 : Nat) : Int) = 1 from rfl, show ((0 : Nat) : Int) = 0 from rfl] at HSG
            have HSG := Lib.hid HSG
            clear htg hog HSF f1 f2
            go_wp2_with fail
            (with_reducible refine HSG.out.mono ?_)
            rintro e wh ⟨rfl, hth, hoh⟩
            have HREL1 : Hid (PlRel w1 dp q m n room (.int .i64 ((j + 1 : Nat) : Nat)) (.pointer (some ⟨p2, 0, none⟩)) wh) := Lib.hid ⟨j + 1, p2, S', l', hlt, by omega, rfl, rfl, Lib.hid ((hth.less (Z' := []) (by simp)).more (by omega))⟩
            clear hth hoh HSG
            go_wp2
            go_roundw
            case rel => exact HREL1.out
            case measure => simp [intOf]; omega
    · go_wp2
      go_ret
      exact ⟨rfl, (HF1.out.trans HF.out (U := []) (by simp) (by simp)).below (by simp) (Nat.le_refl _)⟩
end Go.Proofs.YtamcandcfainfaaGreat
