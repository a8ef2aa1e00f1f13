/- Contract of the law's opens. -/
import Derived.Test.YtamcandcfainfaaGreatMX
import Derived.Test.YtamcandcfainfaaGreatZShows9
import Derived.Test.YtamcandcfainfaaGreatZLCap
import Derived.Test.YtamcandcfainfaaGreatZRlSays
import Derived.Test.YtamcandcfainfaaGreatZT9
namespace Go.Proofs.YtamcandcfainfaaGreat
open Go.RowKit
set_option maxRecDepth 100000
set_option maxHeartbeats 2000000 in
/-- Of, where the ledger is there: nothing is written. -/
theorem rof_found {w : World} {B : Nat} {F : List Nat} {q : Nat} {dv : Value} {La : Option Addr} {Lc : Nat} {R : List Rl} {m : Nat} (i : Nat) (h : Rs w B F q dv La Lc R m) (hm : m ≤ 1000000) (hi : i < R.length) :
    Calls Tryz.prog 24 #[.pointer (some ⟨q, 0, none⟩), .int .u64 ((R.getD i default).id : Nat)] w fun e w' => e = .returned (.int .i64 (i : Nat)) ∧ w = w' := by
  obtain ⟨n, hn⟩ : ∃ n, n = R.length := ⟨_, rfl⟩
  have c0 := h.box.cell 0
  rw [← hn] at c0
  simp at c0
  have hn6 : n ≤ 1000000 := by have := h.few.1; omega
  have hin : i < n := by omega
  have HNE : Hid (∀ t, t < i → ¬ (R.getD t default).id = (R.getD i default).id) := Lib.hid fun t ht he => by
    have hp := List.pairwise_iff_getElem.1 h.ids
    refine hp t i (by simp; omega) (by simpa using hi) ht ?_
    have ht2 : t < R.length := by omega
    simpa [hi, ht2] using he
  obtain ⟨K0, hK0⟩ : ∃ K0, K0 = (R.getD i default).id := ⟨_, rfl⟩
  rw [← hK0] at HNE ⊢
  have HK0 := Lib.hid hK0
  have HN := Lib.hid hn
  have H := Lib.hid h
  clear h hn hK0
  go_enter Tryz.func24, Tryz.ntmps24
  go_wp2
  go_loop [5] (fun u => ∃ t : Nat, t ≤ i ∧ u = .int .i64 (t : Nat)) (fun u => n - (intOf u).toNat)
  case atStart => exact ⟨0, Nat.zero_le _, rfl⟩
  case round =>
    obtain ⟨t, ht, rfl⟩ := hrel
    obtain ⟨g, rfl, c1, _, _, _, _⟩ := H.out.at (i := t) (by have := HN.out; omega)
    have htn : t < n := by omega
    by_cases htq : t = i
    · subst htq
      rw [← HK0.out] at c1
      go_wp2
      go_ret
      exact ⟨rfl, rfl⟩
    · obtain ⟨K, hK⟩ : ∃ K, K = (R.getD t default).id := ⟨_, rfl⟩
      have hne : ¬ K = K0 := by rw [hK]; exact HNE.out t (by omega)
      rw [← hK] at c1
      have hnt := nat_ne hne
      clear hK hne
      go_wp2
      go_round
      case rel => exact ⟨t + 1, by omega, by go_num⟩
      case measure => simp [intOf]; omega
/-- The ledger at a place of the document's row. -/
theorem Rs.at9 {w : World} {B : Nat} {F : List Nat} {q : Nat} {dv : Value} {La : Option Addr} {Lc : Nat} {R : List Rl} {m : Nat} (h : Rs w B F q dv La Lc R m) {i : Nat} (hi : i < R.length) :
    ∃ g a n c X, La = some ⟨g, 0, none⟩ ∧ At9 w q g i (nodeOf R (R.getD i default).id) a n c X R.length Lc m := by
  obtain ⟨g, rfl, c0, c1, c2, c3, c4⟩ := h.at hi
  have hmem : R.getD i default ∈ R := by simp [hi]
  have hk := h.all _ hmem
  have hlg : (R.getD i default).lg = nodeOf R (R.getD i default).id := (nodeOf_at h.ids hi).symm
  have hq := h.lt q (by unfold rwB; simp)
  have hg := h.lt g (by unfold rwB; simp)
  have hio : IOwn w B 57 [] (R.getD i default).a (R.getD i default).c (R.getD i default).X := ⟨hk.row, hk.ok.keep (S := []) (Frm.refl _ _) (by simp) (fun x hx => by
      simp only [List.append_nil] at hx
      refine .inl (List.mem_append_left _ ?_)
      unfold rwB
      simp only [List.mem_cons, List.mem_append, List.mem_flatMap]
      exact .inr (.inr ⟨_, hmem, hx⟩)), by simp⟩
  exact ⟨g, (R.getD i default).a, _, (R.getD i default).c, (R.getD i default).X, rfl, hq, hg, h.box.cell 0, hi, ⟨h.few.1, h.few.2 _ hmem⟩, ⟨_, c0⟩, by rw [← hlg]; exact c1, by rw [← hlg]; exact c2, by rw [← hlg]; exact c3, c4, rfl, hio.il, by rw [← hlg]; rfl, by rw [← hlg]; exact hk.rise, hio.caps.2.2, by rw [← hlg]; exact hk.num.2⟩
def Op9Rel (w : World) (dp q n : Nat) (L : List (List Nat)) (s21 s6 : Value) (wr : World) : Prop :=
  ∃ (k : Nat) (Fd : List Nat) (s : Nat) (r : Bool) (La : Option Addr) (Lc : Nat) (R : List Rl), k ≤ n ∧ s21 = .int .i64 (k : Nat) ∧ s6 = .bool r ∧ Hid (Dk wr dp dp Fd (allF (L.take k)) s 1048576) ∧ Hid (∀ b ∈ L.take k, b.length ≤ 4096) ∧ Hid (Frm [] w wr) ∧ Hid (Rs wr w.heap.size Fd q (.pointer none) La Lc R (k * 2)) ∧ Hid (r = (sayAll nd0 (L.take k)).isSome) ∧ Hid (∀ S, sayAll nd0 (L.take k) = some S → nodeOf R = S)
def Op9Fin (w4 : World) (i : Value) (n : Nat) (wr : World) : Prop := ∃ t : Nat, t ≤ n ∧ i = .int .i64 (t : Nat) ∧ Hid (Frm [] w4 wr)
set_option maxHeartbeats 16000000 in
theorem opens9_any (a0 : Option Addr) (n cap : Nat) (L : List (List Nat)) (w : World) (h : LL w [] a0 L) (hc : LCap w a0 L) (hn : n = L.length) (hn63 : n ≤ 9223372036854775807) :
    Calls Tryz.prog 17 #[.slice a0 n cap] w fun e w' => e = .returned (.bool true) ∧ Frm [] w w' := by
  have HH := Lib.hid h
  have HLC := Lib.hid hc
  have HN := Lib.hid hn
  clear h hc hn
  go_enter Tryz.func17, Tryz.ntmps17
  go_wp2_with fail
  (refine (new_ok 1048576 w (by omega)).mono ?_)
  rintro e w1 ⟨rfl, hd1, hf1, hz1⟩
  obtain ⟨dp, hdp⟩ : ∃ dp, dp = w.heap.size := ⟨_, rfl⟩
  rw [← hdp] at hd1 ⊢
  have HDP := Lib.hid hdp
  obtain ⟨w2, hw2⟩ : ∃ w2, w2 = w1.alloc (.cells #[.slice none 0 0, .pointer none] 40) := ⟨_, rfl⟩
  obtain ⟨q, hq⟩ : ∃ q, q = w1.heap.size := ⟨_, rfl⟩
  have hf2 : Frm [] w1 w2 := by rw [hw2]; exact (Frm.refl _ _).alloc _
  have hW := Whole.made w1 40 #[.slice none 0 0, .pointer none]
  rw [← hw2, ← hq] at hW
  have hRs : Rs w2 w.heap.size [dp] q (.pointer none) none 0 [] 0 := ⟨hW, World.ownsRow_nil _ _ _ _, by simp, List.Pairwise.nil, List.Pairwise.nil, fun g hg => by
    simp [rwB] at hg
    subst hg
    have h1 := hf1.size
    have h2 := hd1.lt dp (by simp)
    exact ⟨by simp; omega, by omega⟩, Nat.le_refl _, by simp⟩
  have HR0 : Hid (Op9Rel w dp q n L (.int .i64 (0 : Nat)) (.bool true) w2) := Lib.hid ⟨0, [dp], 0, true, none, 0, [], Nat.zero_le _, rfl, rfl, Lib.hid (hd1.keep hf2 (by simp)), Lib.hid (by simp), Lib.hid (hf1.trans hf2 (U := []) (by simp) (by simp)), Lib.hid hRs, Lib.hid rfl, Lib.hid (fun S hS => by cases hS; rfl)⟩
  have HW2 := Lib.hid hw2
  have HQ := Lib.hid hq
  clear hd1 hf1 hz1 hdp hw2 hq hf2 hW hRs
  go_wp2
  rw [← HW2.out, ← HQ.out]
  go_loopw [21, 6] (fun s21 s6 wr => Op9Rel w dp q n L s21 s6 wr) (fun s21 _ _ => n - (intOf s21).toNat)
  case atStart => exact HR0.out
  case round =>
    clear HR0 HW2 HQ
    obtain ⟨k, Fd, s, r, La, Lc, R, hk, rfl, rfl, HD, HS, HF, HRS, HRR, HND⟩ := hrel
    by_cases hlt : k < n
    · have hkL : k < L.length := by have := HN.out; omega
      obtain ⟨bb, off, ha0, ai, ci, p0, hby, _, hnl⟩ := (HH.out.keep (F' := []) HF.out (by simp) (by simp)).at hkL
      obtain ⟨_, _, ai2, ci2, hb2, p2, hcap⟩ := HLC.out.keep HF.out k hkL
      rw [ha0] at hb2
      cases hb2
      rw [p0] at p2
      simp only [Option.some.injEq, Value.slice.injEq] at p2
      have hcap2 : (L.getD k []).length ≤ ci := by rw [p2.2.2]; exact hcap
      subst ha0
      have hlow : L.getD k [] ≠ [] → ∀ x, ai = some x → x.block < w.heap.size := by
        obtain ⟨bb', off', ha', ai', ci', p0', hby', _⟩ := HH.out.at hkL
        cases ha'
        have e := (HF.out.cell (p := ⟨bb, off + k, none⟩) (block_lt_of_cell p0') (by simp)).trans p0'
        rw [p0] at e
        simp only [Option.some.injEq, Value.slice.injEq] at e
        rw [e.1]
        exact fun hne x hx => bytes_lt hby' hne x hx
      have htake : L.take (k + 1) = L.take k ++ [L.getD k []] := by rw [List.take_succ_eq_append_getElem hkL]; simp [hkL]
      obtain ⟨b, hb⟩ : ∃ b, b = L.getD k [] := ⟨_, rfl⟩
      rw [← hb] at p0 hby htake hcap2 hlow
      obtain ⟨bn, hbn⟩ : ∃ bn, bn = b.length := ⟨_, rfl⟩
      rw [← hbn] at p0 hcap2
      have HTK := Lib.hid htake
      have HBN := Lib.hid hbn
      have HBY := Lib.hid hby
      have HLOW := Lib.hid hlow
      have HNL := Lib.hid hnl
      have HCAP := Lib.hid hcap2
      have HFR := Lib.hid (fun h => ref_frame_any ai bn ci b wr hby hbn hnl h)
      clear hby hnl hb hbn hkL htake hlow hcap2 p2 hcap
      by_cases h4 : 4096 < bn
      · have hd : decide ((4096 : Int) < (bn : Int)) = true := decide_eq_true (by omega)
        have hd2 : decide (4096 < bn) = true := decide_eq_true h4
        clear h4
        go_wp2
        go_ret
        exact ⟨rfl, HF.out⟩
      · have hd : decide ((4096 : Int) < (bn : Int)) = false := decide_eq_false (by omega)
        have hd2 : decide (4096 < bn) = false := decide_eq_false h4
        have H4 := Lib.hid h4
        clear h4
        go_wp2_with fail
        (with_reducible refine (HFR.out (by have := H4.out; omega)).mono ?_)
        rintro e w2 ⟨fa, fc, rfl, hfb, hf2⟩
        have hfn : fa = none → fc = 0 := by
          intro e
          subst e
          rcases hfb.2.2 with h | ⟨_, _, h, _⟩
          · have := congrArg List.length h; rw [fr_length] at this; simp at this
          · cases h
        have HFB := Lib.hid hfb
        have HFN := Lib.hid hfn
        have HF02 := Lib.hid hf2
        have HF2 := Lib.hid (HF.out.trans hf2 (U := []) (by simp) (by simp))
        have HD2 := Lib.hid (HD.out.keep hf2 (by simp))
        have HRS2 := Lib.hid (HRS.out.here hf2)
        obtain ⟨fn, hfl⟩ : ∃ fn, fn = (fr b).length := ⟨_, rfl⟩
        rw [← hfl]
        have HFL := Lib.hid hfl
        have hfn8 : fn = bn + 8 := by rw [hfl, fr_length, HBN.out]
        have HF8 := Lib.hid hfn8
        clear hfb hfn hf2 p0 hfl hfn8
        by_cases hr : (allF (L.take k)).length + fn ≤ 1048576
        · have HR := Lib.hid hr
          clear hr
          go_wp2_with fail
          (with_reducible refine (append_ok fa fn fc (fr b) HD2.out HFB.out HFL.out HFN.out (by rw [← HFL.out]; exact HR.out)).mono ?_)
          rintro e w3 ⟨rfl, Fd', hd3, hf3, hx3⟩
          have HF3 : Hid (Frm [] w w3) := Lib.hid (HF2.out.trans hf3 (by simp) (fun x hx => .inr (by have h1 := (HD2.out.lt x hx).1; have := HDP.out; omega)))
          have hRS3 : Rs w3 w.heap.size Fd' q (.pointer none) La Lc R (k * 2) := HRS2.out.keep hf3 (fun x hx => .inl hx) hx3
          have HD3 : Hid (Dk w3 dp dp Fd' (allF (L.take (k + 1))) s 1048576) := Lib.hid (by rw [HTK.out, allF_append, allF_one]; exact hd3)
          have HS3 : Hid (∀ y ∈ L.take (k + 1), y.length ≤ 4096) := Lib.hid (fun y hy => by
            rw [HTK.out] at hy
            rcases List.mem_append.1 hy with h | h
            · exact HS.out y h
            · simp at h; rw [h]; have := H4.out; have := HBN.out; omega)
          have hk2 : k * 2 ≤ 300000 := by
            have h1 := allF_ge (L.take k)
            have h2 := HD.out.1.2.2.2.1
            rw [List.length_take, Nat.min_eq_left (by have := HN.out; omega)] at h1
            omega
          have HRS3 := Lib.hid hRS3
          have HX3 := Lib.hid hx3
          have hb3 : Bytes w3 ai b := (HF02.out.trans hf3 (U := Fd) (by simp) (fun x hx => .inl hx)).bytes' HBY.out (fun hne y hy hm => by have h1 := HLOW.out hne y hy; have h2 := (HD2.out.lt _ hm).1; have := HDP.out; omega)
          have HB3 := Lib.hid hb3
          have hFl : ∀ x ∈ Fd', x < w3.heap.size := fun x hx => (hd3.lt x hx).2
          have HSY := Lib.hid (rsays_any ai bn ci b hRS3 hFl (by omega) hb3 HBN.out HCAP.out HNL.out (by have := H4.out; have := HBN.out; omega) (fun hne x hx hm => by have h1 := HLOW.out hne x hx; have h2 := (hRS3.out _ hm).2; omega))
          clear hd3 hf3 hx3 hRS3 hb3 hFl
          cases r with
          | false =>
            have hno : sayAll nd0 (L.take k) = none := by
              have := HRR.out
              cases h : sayAll nd0 (L.take k) with
              | none => rfl
              | some S => rw [h] at this; cases this
            have hno2 : sayAll nd0 (L.take (k + 1)) = none := by rw [HTK.out, sayAll_snoc, hno]; rfl
            have HREL : Hid (Op9Rel w dp q n L (.int .i64 ((k + 1 : Nat) : Nat)) (.bool false) w3) := Lib.hid ⟨k + 1, Fd', s, false, La, Lc, R, hlt, rfl, rfl, HD3, HS3, HF3, Lib.hid (HRS3.out.more (by omega)), Lib.hid (by rw [hno2]; rfl), Lib.hid (fun S hS => by rw [hno2] at hS; cases hS)⟩
            clear hno hno2 HSY
            go_wp2
            go_roundw
            case rel => exact HREL.out
            case measure => simp [intOf]; omega
          | true =>
            obtain ⟨S, hS⟩ : ∃ S, sayAll nd0 (L.take k) = some S := by
              have := HRR.out
              cases h : sayAll nd0 (L.take k) with
              | none => rw [h] at this; cases this
              | some S => exact ⟨S, rfl⟩
            have hnd := HND.out S hS
            have hs2 : sayAll nd0 (L.take (k + 1)) = say1 S b := by rw [HTK.out, sayAll_snoc, hS]; rfl
            have HS2 := Lib.hid hs2
            unfold SaysEnd at HSY
            rw [hnd] at HSY
            clear hnd hs2 hS
            go_wp2_with fail
            (with_reducible refine HSY.out.mono ?_)
            rintro e w4 ⟨La', Lc', R', rfl, hrs4, hn4, hf4, hx4⟩
            obtain ⟨r', hr'⟩ : ∃ r', r' = (say1 S b).isSome := ⟨_, rfl⟩
            rw [← hr']
            have HREL : Hid (Op9Rel w dp q n L (.int .i64 ((k + 1 : Nat) : Nat)) (.bool r') w4) := Lib.hid ⟨k + 1, Fd', s, r', La', Lc', R', hlt, rfl, rfl, Lib.hid (HD3.out.keep hf4 (fun x hx hm => (HRS3.out.out x hm).1 hx)), HS3, Lib.hid (HF3.out.trans hf4 (by simp) (fun x hx => .inr (HRS3.out.out x hx).2)), Lib.hid (hrs4.more (by omega)), Lib.hid (by rw [HS2.out]; exact hr'), Lib.hid (fun S' hS' => hn4 S' (by rw [← HS2.out]; exact hS'))⟩
            clear hrs4 hn4 hf4 hx4 hr' HSY
            go_wp2
            go_roundw
            case rel => exact HREL.out
            case measure => simp [intOf]; omega
        · have HR := Lib.hid hr
          clear hr
          go_wp2_with fail
          (refine (append_full fa fn fc HD2.out (by have := H4.out; have := HF8.out; omega) (by have := HR.out; omega)).mono ?_)
          rintro e w3 ⟨rfl, nn, rfl⟩
          go_wp2
          go_ret
          exact ⟨rfl, HF2.out.drewN nn⟩
    · obtain rfl : k = n := by omega
      have htk : L.take k = L := by rw [HN.out]; exact List.take_length
      have hd := HD.out
      have hs := HS.out
      have hrr := HRR.out
      have hnd := HND.out
      rw [htk] at hd hs hrr hnd
      have hfit : Fit L := fun b hb => ⟨hs b hb, HH.out.byte hb⟩
      have hra := recs_all' L hfit
      have hk2 : k * 2 ≤ 300000 := by
        have h1 := allF_ge (L.take k)
        have h2 := HD.out.1.2.2.2.1
        rw [List.length_take, Nat.min_eq_left (by have := HN.out; omega)] at h1
        omega
      have HOP := Lib.hid (sopen_any (rwB q La R) hd HRS.out.lt (fun x hx hm => (HRS.out.out x hm).1 hx))
      unfold SOpenEnd at HOP
      rw [hra.1] at HOP
      have HB := Lib.hid (show ∀ x ∈ Fd, w.heap.size ≤ x from fun x hx => by have h1 := (hd.lt x hx).1; have := HDP.out; omega)
      have HRR2 := Lib.hid hrr
      have HND2 := Lib.hid hnd
      clear hd hs hfit hra htk hrr hnd
      go_wp2_with fail
      (with_reducible refine HOP.out.mono ?_)
      rintro e w2 (⟨S, p, jq, Fd', hsa, rfl, hsp, hf2, _, _⟩ | ⟨hsa, rfl, hf2⟩)
      · have hr : r = true := by rw [HRR2.out, hsa]; rfl
        subst hr
        have HF2 := Lib.hid (HF.out.trans hf2 (U := []) (by simp) (fun x hx => .inr (HB.out x hx)))
        have hnS := HND2.out S hsa
        have hrs2 : Rs w2 w.heap.size [] q (.pointer none) La Lc R (k * 2) := HRS.out.keep hf2 (fun x hx => .inl hx) (by simp)
        obtain ⟨lo, hlo⟩ : ∃ lo, lo = (allF L).take (recN (allF L)) := ⟨_, rfl⟩
        rw [← hlo] at hsp
        have hnv : Nv w w2 (rwB q La R) p dp S lo 1048576 := ⟨⟨jq, Fd', by have := HDP.out; rw [this] at hsp; rw [this]; exact hsp⟩, HF2.out, hrs2.lt⟩
        have HRS2 := Lib.hid hrs2
        have HNV := Lib.hid hnv
        have HNS := Lib.hid hnS
        obtain ⟨rn, hrn⟩ : ∃ rn, rn = R.length := ⟨_, rfl⟩
        have c0 := hrs2.box.cell 0
        rw [← hrn] at c0
        simp at c0
        have HRN := Lib.hid hrn
        have hrn6 : rn ≤ 1000000 := by have := hrs2.few.1; omega
        have HL0 : Hid (Op9Fin w2 (.int .i64 (0 : Nat)) rn w2) := Lib.hid ⟨0, Nat.zero_le _, rfl, Lib.hid (Frm.refl _ _)⟩
        clear hsa hsp hf2 hnS hrs2 hnv hlo hrn HOP
        go_wp2
        go_loopw [60] (fun i wr => Op9Fin w2 i rn wr) (fun i _ => rn - (intOf i).toNat)
        case atStart => exact HL0.out
        case round =>
          clear HL0
          obtain ⟨t, ht, rfl, HFT⟩ := hrel
          by_cases htn : t < rn
          · have htR : t < R.length := by have := HRN.out; omega
            obtain ⟨g, hLa, i0, i1, i2, i3, i4⟩ := (HRS2.out.here HFT.out).at htR
            have hid64 : (R.getD t default).id < N64 := ((HRS2.out.all _ (by simp [htR])).num).1
            obtain ⟨idn, hidn⟩ : ∃ idn, idn = (R.getD t default).id := ⟨_, rfl⟩
            have HSH := Lib.hid (fun (z : World) (hz : Frm [] w2 z) => shows9_any (w0 := w) (w := z) (p := p) (q := q) (dp := dp) (room := 1048576) (mm := k * 2) (S := S) (l := lo) (fun z => Frm [] w2 z) (R.getD t default).id 0 hid64 (by decide) (fun z z' h hf => h.trans hf (by simp) (by simp)) (fun z h => ⟨_, HNV.out.here h⟩) (by omega) ((rof_found t (HRS2.out.here hz) (by omega) htR).mono (fun e w' h => by
              obtain ⟨rfl, rfl⟩ := h
              obtain ⟨g, a, n, c, X, _, h9⟩ := (HRS2.out.here hz).at9 htR
              rw [HNS.out] at h9
              exact ⟨t, g, a, n, c, X, _, _, rfl, hz, h9⟩)))
            rw [← hidn, show ((0 : Nat) : Int) = 0 from rfl] at HSH
            rw [← hidn] at i0
            obtain ⟨f1, hf1⟩ : ∃ x, x = (R.getD t default).fen := ⟨_, rfl⟩
            obtain ⟨f2, hf2⟩ : ∃ x, x = (R.getD t default).gone := ⟨_, rfl⟩
            obtain ⟨f3, hf3⟩ : ∃ x, x = (R.getD t default).sure := ⟨_, rfl⟩
            obtain ⟨f4, hf4⟩ : ∃ x, x = (R.getD t default).a := ⟨_, rfl⟩
            obtain ⟨f5, hf5⟩ : ∃ x, x = (R.getD t default).X.length := ⟨_, rfl⟩
            obtain ⟨f6, hf6⟩ : ∃ x, x = (R.getD t default).c := ⟨_, rfl⟩
            rw [← hf1] at i1
            rw [← hf2] at i2
            rw [← hf3] at i3
            rw [← hf4, ← hf5, ← hf6] at i4
            subst hLa
            clear hf1 hf2 hf3 hf4 hf5 hf6 hidn hid64 htR
            go_wp2_with fail
            (refine (HSH.out _ (HFT.out.alloc _)).mono ?_)
            rintro e w5 ⟨rfl, hf5⟩
            have HE := Lib.hid hf5
            clear hf5 HSH
            go_wp2
            go_roundw
            case rel => exact ⟨t + 1, htn, by go_num, HE⟩
            case measure => simp [intOf]; omega
          · have HSH := shows9_any (w0 := w) (w := wr) (p := p) (q := q) (dp := dp) (room := 1048576) (mm := k * 2 + 1) (S := S) (l := lo) (fun z => Frm [] w z ∧ ∃ La Lc R D, Rs z w.heap.size [] q (.pointer none) La Lc R (k * 2 + 1) ∧ Nv w z D p dp S lo 1048576 ∧ nodeOf R = S) 9 9 (by decide) (by decide) (fun z z' h hf => by
              obtain ⟨h1, La, Lc, R, D, h2, h3, h4⟩ := h
              exact ⟨h1.trans hf (by simp) (by simp), La, Lc, R, D, h2.here hf, h3.here hf, h4⟩) (fun z h => by
              obtain ⟨_, _, _, _, D, _, h3, _⟩ := h
              exact ⟨D, h3⟩) (by omega) ((rof_any 9 (by decide) (HRS2.out.here HFT.out) (by simp) (by omega)).mono (fun e w' h => by
              obtain ⟨i, La', Lc', R', rfl, hs', hi, hid', hnode, hf, hx⟩ := h
              obtain ⟨g, a, n, c, X, _, h9⟩ := hs'.at9 hi
              rw [hid', hnode, HNS.out] at h9
              have hold := HRS2.out.out
              exact ⟨i, g, a, n, c, X, _, _, rfl, ⟨(HF2.out.trans HFT.out (U := []) (by simp) (by simp)).trans hf (by simp) (fun x hx => .inr (hold x hx).2), La', Lc', R', rwB q La R, hs', (HNV.out.here HFT.out).keep hf (fun x hx => ⟨.inl hx, (hold x hx).2⟩) (fun x hx => .inl hx) (fun x hx => Nat.lt_of_lt_of_le ((HNV.out.here HFT.out).low x hx) hf.size), hnode.trans HNS.out⟩, h9⟩))
            rw [show ((9 : Nat) : Int) = 9 from rfl] at HSH
            have HSH := Lib.hid HSH
            go_wp2_with fail
            (with_reducible refine HSH.out.mono ?_)
            rintro e w5 ⟨rfl, hf5, _⟩
            have HE := Lib.hid hf5
            clear hf5 HSH
            go_wp2
            go_ret
            exact ⟨rfl, HE.out⟩
      · have hr : r = false := by rw [HRR2.out, hsa]; rfl
        subst hr
        have HE := Lib.hid (HF.out.trans hf2 (U := []) (by simp) (by simp))
        clear hsa hf2 HOP
        go_wp2
        go_ret
        exact ⟨rfl, HE.out⟩
end Go.Proofs.YtamcandcfainfaaGreat
