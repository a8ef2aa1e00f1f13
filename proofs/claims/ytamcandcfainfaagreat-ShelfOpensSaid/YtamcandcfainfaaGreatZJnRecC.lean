/- The reference's Records, with a word on what each record has room for. Written by wip/mk-jnrecc.py. -/
import Derived.Test.YtamcandcfainfaaGreatMX
namespace Go.Proofs.YtamcandcfainfaaGreat
open Go.RowKit
def RUOkC (w : World) (a : Option Addr) (l : List Nat) (z : Nat) (e : Ending) (w' : World) : Prop :=
  ∃ a1 cap1 a2 cap2, e = .returned (.tuple #[.slice a1 z cap1, .slice a2 (l.length - (8 + z)) cap2, .int .i64 0]) ∧ Bytes w' a1 ((l.drop 8).take z) ∧ Bytes w' a2 (l.drop (8 + z)) ∧ Frm [] w w' ∧ (∀ y, a1 = some y → ∃ q, a = some q ∧ y.block = q.block) ∧ (a1 = none → cap1 = 0) ∧ z ≤ cap1
set_option maxHeartbeats 1000000 in
theorem ref_unframe_okC (a : Option Addr) (n cap : Nat) (l : List Nat) (w : World) (hl : Bytes w a l) (hn : n = l.length) (hnc : n ≤ cap) (hnil : a = none → cap = 0) (z s : Nat) (hz : val (l.take 4) = z) (hs : val ((l.drop 4).take 4) = s) (h8 : 8 ≤ n) (hz4 : z ≤ 4096) (hzn : 8 + z ≤ n) (hq : sumN ((l.drop 8).take z) = s) :
    Calls Tryz.prog 38 #[.slice a n cap] w (RUOkC w a l z) := by
  have HSUM := Lib.hid hq
  clear hq
  subst hn
  have hz32 : z < 4294967296 := by
    have := val_lt (l.take 4) (fun c hc => hl.1 c (List.mem_of_mem_take hc))
    rw [List.length_take, Nat.min_eq_left (by omega), hz] at this
    simpa using this
  have hs32 : s < 4294967296 := by
    have := val_lt ((l.drop 4).take 4) (fun c hc => hl.1 c (List.mem_of_mem_drop (List.mem_of_mem_take hc)))
    rw [List.length_take, Nat.min_eq_left (by simp; omega), hs] at this
    simpa using this
  have hll := hl.2.1
  have hf0 : Frm [] w (w.alloc (.cells #[.slice a l.length cap, .int .i64 0] 120)) := (Frm.refl _ _).alloc _
  have h0 : RR (w.alloc (.cells #[.slice a l.length cap, .int .i64 0] 120)) w.heap.size l a cap :=
    ⟨Whole.made _ _ _, hf0.bytes hl (by simp), hnc, hnil, fun hne x hx => by have := bytes_lt hl hne x hx; omega⟩
  have h1 := h0.next 4
  have h2 := h1.next 4
  rw [List.drop_drop] at h2
  have hf2 : Frm [] w (((w.alloc (.cells #[.slice a l.length cap, .int .i64 0] 120)).setCell ⟨w.heap.size, 0, none⟩ (.slice (cutAt a cap 4) (l.length - 4) (cap - 4))).setCell ⟨w.heap.size, 0, none⟩ (.slice (cutAt (cutAt a cap 4) (cap - 4) 4) ((l.drop 4).length - 4) (cap - 4 - 4))) :=
    (hf0.setCell (.inr (by simp)) _).setCell (.inr (by simp)) _
  have H0 := Lib.hid (ref_number_ok 4 h0 (by omega) (by omega))
  have H1 := Lib.hid (ref_number_ok 4 h1 (by simp; omega) (by omega))
  unfold Numbered at H0 H1
  rw [hz] at H0
  rw [hs] at H1
  have H2 := Lib.hid h2
  have HF2 := Lib.hid hf2
  have H8 := Lib.hid hl.1
  clear h0 h1 h2 hf0 hf2 hl hz hs hnil
  go_enter Tryz.func38, Tryz.ntmps38
  go_wp2_with fail
  refine H0.out.mono ?_
  rintro e w1 ⟨rfl, hw1⟩
  rw [← hw1] at H1 H2 HF2
  clear hw1
  go_wp2_with fail
  refine H1.out.mono ?_
  rintro e w2 ⟨rfl, hw2⟩
  rw [← hw2] at H2 HF2
  clear hw2
  have k0 := H2.out.whole.cell 0
  simp only [List.length_drop] at k0
  obtain ⟨a2, ha2⟩ : ∃ a2, a2 = cutAt (cutAt a cap 4) (cap - 4) 4 := ⟨_, rfl⟩
  obtain ⟨m, hm⟩ : ∃ m, m = l.length - (4 + 4) := ⟨_, rfl⟩
  obtain ⟨c2, hc2⟩ : ∃ c2, c2 = cap - 4 - 4 := ⟨_, rfl⟩
  have hb2 := H2.out.bytes
  have hle2 := H2.out.le
  have hnil2 := H2.out.nil
  rw [← ha2] at hb2 hnil2
  rw [← hc2] at hle2 hnil2
  rw [← ha2, ← hc2, ← hm] at k0
  simp at k0
  have HB2 := Lib.hid hb2; clear hb2
  have HM : Hid (m = (l.drop 8).length) := by show m = _; simp [hm]
  have HLE := Lib.hid hle2; clear hle2
  have hmle : m ≤ c2 := by have h := HLE.out; have h2 := HM.out; simp only [List.length_drop] at h h2; omega
  have hme : m = l.length - 8 := by omega
  have hm63 : m ≤ 9223372036854775807 := by omega
  have HNIL := Lib.hid hnil2; clear hnil2
  have HBLK := Lib.hid (show ∀ y, a2 = some y → ∃ q, a = some q ∧ y.block = q.block from fun y hy => by rw [ha2] at hy; obtain ⟨q, hq, e1⟩ := cut_block hy; obtain ⟨q', hq', e2⟩ := cut_block hq; exact ⟨q', hq', e1.trans e2⟩)
  clear H0 H1 ha2 hc2 hm H2
  have hmz : z ≤ m := by omega
  clear hme
  have HZL : Hid (z = ((l.drop 8).take z).length) := by show z = _; have h2 := HM.out; simp only [List.length_drop] at h2; simp; omega
  go_wp2_with fail
  refine (ref_sum_eq _ _ _ ((l.drop 8).take z) _ s HSUM.out (HB2.out.take z) HZL.out).mono ?_
  rintro e w' ⟨rfl, rfl⟩
  have hnb2 : ((s : Int) != (s : Int)) = false := by simp
  have hcut := fun (w : World) => run_cut_l (P := Tryz.prog) Tryz.underlying35 size_byte w a2 m c2 z (z : Int) rfl hmz .u64
  have hb3 := cut_bytes HB2.out HLE.out z
  rw [List.drop_drop] at hb3
  obtain ⟨a3, ha3⟩ : ∃ a3, a3 = cutAt a2 c2 z := ⟨_, rfl⟩
  obtain ⟨n3, hn3⟩ : ∃ n3, n3 = m - z := ⟨_, rfl⟩
  obtain ⟨c3, hc3⟩ : ∃ c3, c3 = c2 - z := ⟨_, rfl⟩
  rw [← ha3, ← hn3, ← hc3] at hcut
  rw [← ha3] at hb3
  have HB3 := Lib.hid hb3; clear hb3
  have HN3 : Hid (n3 = l.length - (8 + z)) := by show n3 = _; have h2 := HM.out; simp only [List.length_drop] at h2; omega
  clear ha3 hn3 hc3
  go_wp2
  go_quiet (fail)
  go_wp2
  go_ret3
  exact ⟨a2, c2, a3, c3, by rw [← HN3.out]; rfl, (HB2.out.take z), HB3.out, HF2.out.drewN _, HBLK.out, HNIL.out, by omega⟩
/-- What Unframe answers, the body in a block of which G holds, no longer than it has room for. -/
def UnfC (G : Nat → Prop) (w : World) (x y : List Nat) (c : Int) (e : Ending) (w' : World) : Prop :=
  ∃ a1 cap1 a2 cap2, e = .returned (.tuple #[.slice a1 x.length cap1, .slice a2 y.length cap2, .int .i64 c]) ∧ Bytes w' a1 x ∧ Bytes w' a2 y ∧ Frm [] w w' ∧ (∀ q, a1 = some q → G q.block) ∧ (a1 = none → cap1 = 0) ∧ x.length ≤ cap1
theorem unfC_err {G : Nat → Prop} {w : World} {l : List Nat} {c : Int} {e : Ending} {w' : World} (hc : uC l = c) (h0 : c ≠ 0) (h : UnfErr w c e w') : UnfC G w (uX l) (uY l) (uC l) e w' := by
  have hx : uX l = [] := by unfold uX; rw [hc, if_neg h0]
  have hy : uY l = [] := by unfold uY; rw [hc, if_neg h0]
  rw [hx, hy, hc]
  exact ⟨none, 0, none, 0, h.1, Bytes.nil _, Bytes.nil _, h.2, (fun _ h => by cases h), (fun _ => rfl), Nat.le_refl _⟩
def Caps (vs : List Value) (L : List (List Nat)) : Prop := ∀ i, i < L.length → ∃ ai ci, vs[i]? = some (.slice ai (L.getD i []).length ci) ∧ (L.getD i []).length ≤ ci
theorem Caps.nil : Caps [] [] := fun i hi => absurd hi (by simp)
theorem Caps.add {vs : List Value} {L : List (List Nat)} {x : List Nat} {a : Option Addr} {n c : Nat} (h : Caps vs L) (hl : vs.length = L.length) (hn : n = x.length) (hc : x.length ≤ c) : Caps (vs ++ [.slice a n c]) (L ++ [x]) := fun i hi => by
  rw [List.length_append, List.length_singleton] at hi
  by_cases h1 : i < L.length
  · rw [show (L ++ [x]).getD i [] = L.getD i [] by simp [List.getD, List.getElem?_append, h1], List.getElem?_append_left (by omega)]
    exact h i h1
  · obtain rfl : i = L.length := by omega
    rw [show (L ++ [x]).getD L.length [] = x by simp, ← hl, List.getElem?_concat_length]
    exact ⟨a, c, by rw [hn], hc⟩
def RecsC (w : World) (F : List Nat) (l : List Nat) (e : Ending) (w' : World) : Prop :=
  ∃ a cap vs, e = .returned (.tuple #[.slice a (recs l).length cap, .int .i64 (recN l : Nat)]) ∧ OwnL w' w.heap.size 35 F a cap (recs l) vs ∧ Frm [] w w' ∧ Caps vs (recs l)
def BoRelC (w : World) (F : List Nat) (l : List Nat) (u2 u3 : Value) (wr : World) : Prop :=
  ∃ L sz a cap vs, recs l = L ++ recs (l.drop sz) ∧ recN l = sz + recN (l.drop sz) ∧ sz ≤ l.length ∧ L.length ≤ sz ∧ u2 = .slice a L.length cap ∧ u3 = .int .i64 (sz : Nat) ∧ OwnL wr w.heap.size 35 F a cap L vs ∧ Frm [] w wr ∧ Caps vs L
theorem ref_unframe_atC (a : Option Addr) (n cap : Nat) (l : List Nat) (w : World) (hl : Bytes w a l) (hn : n = l.length) (hnc : n ≤ cap) (hnil : a = none → cap = 0) :
    Calls Tryz.prog 38 #[.slice a n cap] w (UnfC (fun b => ∃ q, a = some q ∧ b = q.block) w (uX l) (uY l) (uC l)) := by
  by_cases h1 : n < 8
  · exact (ref_unframe_short a n cap w h1).mono fun e w' h => unfC_err (c := 4) (by unfold uC; rw [if_pos (by omega)]) (by decide) h
  by_cases h2 : 4096 < val (l.take 4)
  · exact (ref_unframe_long a n cap l w hl hn hnc hnil _ _ rfl rfl (by omega) h2).mono fun e w' h => unfC_err (c := 3) (by unfold uC; rw [if_neg (by omega), if_pos h2]) (by decide) h
  by_cases h3 : n < 8 + val (l.take 4)
  · exact (ref_unframe_less a n cap l w hl hn hnc hnil _ _ rfl rfl (by omega) (by omega) h3).mono fun e w' h => unfC_err (c := 4) (by unfold uC; rw [if_neg (by omega), if_neg h2, if_pos (by omega)]) (by decide) h
  by_cases h4 : sumN ((l.drop 8).take (val (l.take 4))) = val ((l.drop 4).take 4)
  · have h0 : uC l = 0 := by unfold uC; rw [if_neg (by omega), if_neg h2, if_neg (by omega), if_pos h4]
    obtain ⟨_, hx, hy, hxl, hyl⟩ := u_ok h0
    refine (ref_unframe_okC a n cap l w hl hn hnc hnil _ _ rfl rfl (by omega) (by omega) (by omega) h4).mono ?_
    rintro e w' ⟨a1, cap1, a2, cap2, rfl, k1, k2, hf, hq, hq2, hq3⟩
    exact ⟨a1, cap1, a2, cap2, by rw [hxl, hyl, h0], by rw [hx]; exact k1, by rw [hy]; exact k2, hf, hq, hq2, by rw [hxl]; exact hq3⟩
  · exact (ref_unframe_sum a n cap l w hl hn hnc hnil _ _ rfl rfl (by omega) (by omega) (by omega) _ rfl h4).mono fun e w' h => unfC_err (c := 7) (by unfold uC; rw [if_neg (by omega), if_neg h2, if_neg (by omega), if_neg h4]) (by decide) h
set_option maxRecDepth 100000 in
set_option maxHeartbeats 2000000 in
theorem records_anyC (a : Option Addr) (n cap : Nat) (l : List Nat) (F : List Nat) (w : World) (hl : Bytes w a l) (hn : n = l.length) (hnc : n ≤ cap) (hnil : a = none → cap = 0) (hcap : n ≤ 100000000) (hF : ∀ x ∈ F, x < w.heap.size)
    (haF : l ≠ [] → ∀ x, a = some x → x.block ∉ F) :
    Calls Tryz.prog 16 #[.slice a n cap] w (RecsC w F l) := by
  obtain ⟨i0, hi, hz0, hz1, hz2⟩ := info_parts Tryz.info35
  have HI := Lib.hid hi; clear hi
  have HZ0 := Lib.hid hz0; clear hz0
  have HZ1 := Lib.hid hz1; clear hz1
  have HZ2 := Lib.hid hz2; clear hz2
  have HL := Lib.hid hl; clear hl
  have HN := Lib.hid hn; clear hn
  have HNIL := Lib.hid hnil; clear hnil
  have HF := Lib.hid hF; clear hF
  have HAF := Lib.hid haF; clear haF
  go_enter Tryz.func16, Tryz.ntmps16
  go_wp2
  go_loopw [4, 5] (fun u2 u3 wr => BoRelC w F l u2 u3 wr) (fun _ u3 _ => n + 1 - (intOf u3).toNat)
  case atStart => exact ⟨[], 0, none, 0, [], by simp, by simp, Nat.zero_le _, Nat.le_refl _, rfl, rfl, OwnL.nil _ _ _ _, Frm.refl _ _, Caps.nil⟩
  case round =>
    obtain ⟨M, sz, ar, cr, vs, hr1, hr2, hr3, hr4, rfl, rfl, hown, hfr, hcaps⟩ := hrel
    obtain ⟨L, hL⟩ : ∃ L, L = l.drop sz := ⟨_, rfl⟩
    have hln : L.length = n - sz := by rw [hL, List.length_drop, HN.out]
    have hszn : sz ≤ n := by rw [HN.out]; exact hr3
    rw [← hL] at hr1 hr2
    have hcut := fun w => run_cut_l (P := Tryz.prog) Tryz.underlying35 sizeU8 w a n cap sz (sz : Int) rfl hszn
    have hbL : Bytes wr (cutAt a cap sz) L := by rw [hL]; exact cut_bytes (hfr.bytes HL.out (by simp)) (by have := HN.out; omega) sz
    have hnilL : cutAt a cap sz = none → cap - sz = 0 := fun h => cut_none HNIL.out h
    have hblk : ∀ q, cutAt a cap sz = some q → ∃ y, a = some y ∧ q.block = y.block := fun q hq => cut_block hq
    obtain ⟨a1, ha1⟩ : ∃ a1, a1 = cutAt a cap sz := ⟨_, rfl⟩
    obtain ⟨n1, hn1⟩ : ∃ n1, n1 = n - sz := ⟨_, rfl⟩
    obtain ⟨c1, hc1⟩ : ∃ c1, c1 = cap - sz := ⟨_, rfl⟩
    rw [← ha1, ← hn1, ← hc1] at hcut
    rw [← ha1] at hbL hnilL hblk
    rw [← hc1] at hnilL
    have hln1 : n1 = L.length := by omega
    have hnc1 : n1 ≤ c1 := by omega
    have hn1m : n1 ≤ 100000000 := by omega
    have hn1n : n1 ≤ n := by omega
    have HBL := Lib.hid hbL; clear hbL
    have HBK := Lib.hid hblk; clear hblk
    have HNL := Lib.hid hnilL; clear hnilL
    have HLN := Lib.hid hln1; clear hln1
    have HOWN := Lib.hid hown; clear hown
    have HFR := Lib.hid hfr; clear hfr
    have HR1 := Lib.hid hr1; clear hr1
    have HR2 := Lib.hid hr2; clear hr2
    have HR3 := Lib.hid hr3; clear hr3
    have HLL := Lib.hid hL; clear hL
    clear hln ha1 hn1 hc1
    have hst := fun h => re_step (M := M) HLL.out h HR1.out HR2.out HR3.out hr4
    have HST := Lib.hid hst; clear hst
    go_wp2_with fail
    refine (ref_unframe_atC a1 n1 c1 L wr HBL.out HLN.out hnc1 HNL.out).mono ?_
    rintro e w2 ⟨ax, cx, ay, cy, rfl, hx, hy, hf2, hq, hnx, hcx⟩
    have hf02 := HFR.out.trans hf2 (U := []) (by simp) (by simp)
    by_cases hu : uC L = 0
    · rw [hu]
      obtain ⟨st1, st2, st3, st4⟩ := HST.out hu
      have hyl : (uY L).length ≤ n := by have := uY_lt hu; have := HLN.out; omega
      obtain ⟨X, hX⟩ : ∃ X, X = uX L := ⟨_, rfl⟩
      rw [← hX] at hx st1 st4 ⊢
      obtain ⟨x, hxl⟩ : ∃ x, x = X.length := ⟨_, rfl⟩
      rw [← hxl]
      obtain ⟨y, hyv⟩ : ∃ y, y = (uY L).length := ⟨_, rfl⟩
      rw [← hyv, ← HN.out] at st1 st2 st3 st4
      rw [← hyv] at hyl ⊢
      have hown2 := HOWN.out.keep (F' := F) hf2 (by simp) (fun x h => .inl h)
      obtain ⟨m, hm⟩ : ∃ m, m = M.length := ⟨_, rfl⟩
      rw [← hm] at hr4 ⊢
      have hown3 : OwnL (w2.alloc (.cells #[.slice ax x cx] 35)) w.heap.size 35 F ar cr M vs := hown2.keep ((Frm.refl [] w2).alloc _) (by simp) (fun x h => .inl h)
      have hents : Ents (w2.alloc (.cells #[.slice ax x cx] 35)) (blk ar ++ F) [.slice ax x cx] [X] := by
        refine Ents.sole (((Frm.refl [] w2).alloc _).bytes hx (by simp)) hxl hnx (fun hne q hqq hm2 => ?_)
        obtain ⟨z, hz1, hz2⟩ := hq q hqq
        obtain ⟨z', hz3, hz4⟩ := HBK.out z hz1
        have hlne : l ≠ [] := by
          intro h0
          apply hne
          have h1 := HLN.out
          have h2 := HLL.out
          rw [h0] at h2
          have h3 : L = [] := by rw [h2]; simp
          rw [hX, h3]; decide
        have h5 := bytes_lt HL.out hlne z' hz3
        rcases List.mem_append.1 hm2 with h | h
        · have := (HOWN.out.blk_lt _ h).1; omega
        · exact HAF.out hlne z' hz3 (by rw [← hz4, ← hz2]; exact h)
      have hF2 : ∀ y ∈ F, y < (w2.alloc (.cells #[.slice ax x cx] 35)).heap.size := fun y hy => by have := HF.out y hy; have := hf02.size; simp; omega
      have hb2 : w.heap.size ≤ (w2.alloc (.cells #[.slice ax x cx] 35)).heap.size := by have := hf02.size; simp; omega
      have HO3 := Lib.hid hown3
      have HCAPS := Lib.hid (hcaps.add (a := ax) hown3.ents.len hxl (by rw [hX]; exact hcx))
      have HE := Lib.hid hents
      have HF2 := Lib.hid hF2
      have HB2 := Lib.hid hb2
      have HOW := Lib.hid hown3.own
      have HF02 := Lib.hid hf02
      have HM := Lib.hid hm
      have ST1 := Lib.hid st1
      have ST2 := Lib.hid st2
      have ST4 := Lib.hid st4
      have hfit : m + 1 ≤ 1000000000 := by omega
      rw [← HM.out] at HOW
      clear hcaps hcx hown2 hown3 hents hF2 hb2 hf02 hx hy hq hnx hf2 st1 st2 st4 hX hxl hm hu hyv
      obtain ⟨t, ht⟩ : ∃ t, n = t + y := ⟨n - y, by omega⟩
      have hsub : ((n : Int) - (y : Int)) = (t : Nat) := by omega
      have hsub2 : n - y = t := by omega
      rw [hsub2] at st3 ST1 ST2 ST4
      have htn : t ≤ n := by omega
      clear hsub2 ht
      go_wp2_with (at_builtin; refine wpList_appV rfl (.tmp 21) (.tmp 23) 50 rfl w.heap.size 35 i0 (.slice none 0 0) 24 Tryz.underlying50 HI.out HZ0.out rfl HZ1.out HZ2.out (by decide) (.slice ar m cr) m vs rfl HOW.out _ 1 1 [.slice ax x cx] rfl (ValsAt.one _ _ _) rfl HE.out.one' (fun h => by cases h) hfit HB2.out ?_)
      intro a3 cap3 w3 happ
      obtain ⟨h1, h2, h3, h4⟩ := HO3.out.app HM.out HE.out rfl HF2.out happ
      have HA1 := Lib.hid h1
      have HA2 := Lib.hid (((HF02.out.alloc (.cells #[.slice ax x cx] 35))).trans h2 (U := []) (by simp) (fun x hx => .inr (HO3.out.blk_lt x hx).1))
      have HA4 := Lib.hid h4
      clear h1 h2 h3 h4 happ
      go_wp2
      go_round
      case rel => exact ⟨M ++ [X], t, a3, cap3, _, ST1.out, ST2.out, by have := HN.out; omega, ST4.out, by rw [← HA4.out]; rfl, by go_num, HA1.out, HA2.out, HCAPS.out⟩
      case measure => simp [intOf]; omega
    · obtain ⟨c, hc⟩ : ∃ c, c = uC L := ⟨_, rfl⟩
      rw [← hc] at hu ⊢
      have hcb : c ≠ 0 := hu
      have hrec : recs l = M := by rw [HR1.out, recs_stop (by rw [← hc]; exact hu)]; simp
      have hrecN : recN l = sz := by rw [HR2.out, recN_stop (by rw [← hc]; exact hu)]; rfl
      have HRC := Lib.hid hrec
      have HRN := Lib.hid hrecN
      have HF02 := Lib.hid hf02
      have HCAPS := Lib.hid hcaps
      clear hcaps hcx
      have hown2 := Lib.hid (HOWN.out.keep (F' := F) hf2 (by simp) (fun x h => .inl h))
      clear hrec hrecN hf02 hx hy hq hnx hf2 hc hu
      go_wp2
      go_ret2
      exact ⟨ar, cr, vs, by rw [HRC.out, HRN.out]; rfl, by rw [HRC.out]; exact hown2.out, HF02.out, by rw [HRC.out]; exact HCAPS.out⟩
end Go.Proofs.YtamcandcfainfaaGreat
