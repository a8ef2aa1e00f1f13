/- DiskPlays: the walk. -/
import Derived.Test.YtibaloloheakpaaDkBoth
import Derived.Deep.CutBlock
namespace Go.Proofs.Ytibaloloheakpaa
open Go.RowKit

set_option maxRecDepth 100000 in
theorem diskPlays_bad (room : Int) (v : Value) (w : World) (h : room < 0 ∨ 16777216 < room) :
    Calls Try.prog 3 #[.int .i64 room, v] w fun e w' => e = .returned (.bool true) ∧ Below w.heap.size w w' := by
  have h' : room < 0 ∨ (¬ room < 0 ∧ 16777216 < room) := by omega
  have NB := Lib.hid (fun w => new_bad room w h)
  clear h
  rcases h' with h | ⟨h, h2⟩
  all_goals
    go_enter Try.func3, Try.ntmps3
    go_wp2_with fail
    refine (awake4_any w).mono ?_
    rintro e w1 ⟨rfl, hb⟩
    have HB := Lib.hid hb; clear hb
    go_wp2_with fail
    refine (NB.out w1).mono ?_
    rintro e w' ⟨rfl, rfl⟩
    go_wp2
    go_ret
    exact ⟨rfl, HB.out⟩

set_option maxRecDepth 100000 in
set_option maxHeartbeats 8000000 in
theorem diskPlays_main (room : Nat) (a : Option Addr) (n cap : Nat) (ts : List Ac) (w : World) (hr : room ≤ 16777216) (h : Acs w a ts) (hn : n = ts.length) (hn63 : n ≤ 9223372036854775807) :
    Calls Try.prog 3 #[.int .i64 (room : Nat), .slice a n cap] w fun e w' => e = .returned (.bool true) ∧ Below w.heap.size w w' := by
  have H := Lib.hid h; clear h
  have HN := Lib.hid hn; clear hn
  go_enter Try.func3, Try.ntmps3
  go_wp2_with fail
  refine (awake4_any w).mono ?_
  rintro e w1 ⟨rfl, hb⟩
  have HF1 := Lib.hid (Frm.ofBelow hb); clear hb
  go_wp2_with fail
  refine (new_ok room _ hr).mono ?_
  rintro e w2 ⟨rfl, hd, hf, hz⟩
  have hsz := HF1.out.size
  have HF2 := Lib.hid (HF1.out.trans hf (U := []) (by simp) (by simp))
  have B0 : Both w (w2.alloc (.cells #[.int .i64 (room : Nat), .int .i64 0, .slice none 0 0] 31)) w1.heap.size w2.heap.size [w1.heap.size] [w2.heap.size] [] 0 [] 0 room :=
    ⟨hd.keep ((Frm.refl [] w2).alloc _) (by simp), Rf.zero w2 room hr _ (by omega), by simp; omega, HF2.out.alloc _, hsz⟩
  obtain ⟨p, hp⟩ : ∃ p, p = w1.heap.size := ⟨_, rfl⟩
  obtain ⟨m, hm⟩ : ∃ m, m = w2.heap.size := ⟨_, rfl⟩
  rw [← hp, ← hm] at B0
  rw [← hp]
  have HR0 := Lib.hid (show PlRel w p m n room (.int .i64 (0 : Nat)) _ from ⟨0, _, _, _, _, Nat.zero_le _, rfl, B0, by simp⟩)
  have HM := Lib.hid hm
  clear B0 hd hf hz hp HF1 HF2 hm
  go_wp2_with fail
  rw [← HM.out]
  have hs0 : 0 ≤ (room : Int) := by omega
  go_loopw [41] (fun i wr => PlRel w p m n room i wr) (fun i _ => n - (intOf i).toNat)
  case atStart => exact HR0.out
  case round =>
    obtain ⟨k, F, G, l, s, hk, rfl, hboth, hlk⟩ := hrel
    have HB := Lib.hid hboth; clear hboth
    by_cases hlt : k < n
    · obtain ⟨b, off, rfl, hi⟩ := H.out (by have := HN.out; omega)
      have ht0 := (hi k (by have := HN.out; omega)).ok
      have ht := (hi k (by have := HN.out; omega)).keep HB.out.frm
      clear hi
      generalize ts.getD k default = t at ht ht0
      obtain ⟨tk, ba, bc, bs, tn, keep, bit⟩ := t
      obtain ⟨q0, q1, q2, q3, q4, ok⟩ := ht
      simp only at q0 q1 q2 q3 q4
      have OK := Lib.hid ht0; clear ok ht0
      have hbs63 : bs.length ≤ 9223372036854775807 := OK.out.bs_b.2.1
      by_cases h60 : 60 < k
      · have hbx := HB.out.keep ((Frm.refl [] wr).alloc (.cells #[.int .u8 tk, .slice ba bs.length bc, .int .i64 tn, .int .i64 keep, .int .i64 bit] 33))
        obtain ⟨wx, hwx⟩ : ∃ wx, wx = wr.alloc (.cells #[.int .u8 tk, .slice ba bs.length bc, .int .i64 tn, .int .i64 keep, .int .i64 bit] 33) := ⟨_, rfl⟩
        go_wp2_with fail
        rw [← hwx] at hbx ⊢
        clear hwx
        obtain ⟨am, cm, hwm, hbm, hnm, _⟩ := hbx.rf.whole
        have k2 := hwm.cell 2
        simp at k2
        have HBM := Lib.hid hbm
        have HDE := Lib.hid hbx.dk
        have H8E := Lib.hid hbx.dk.1.1
        have HWM := Lib.hid hwm
        have HFE := Lib.hid hbx.frm
        have cv : ∀ w', Frm [] wx w' → (convert 29 9 (.slice am l.length cm)).run Try.prog w' = .ok (.string (strOf l)) w' := fun w' hf =>
          run_to_string Try.underlying29 Try.underlying5 Try.underlying9 (hf.bytes HBM.out (by simp)) rfl
        have BY := Lib.hid (fun (w' : World) (hf : Frm [] wx w') => bytes_any (HDE.out.keep hf (by simp)))
        have f0 : Frm [] wx (wx).drew := (Frm.refl _ _).drew
        clear hbm hwm hnm
        go_wp2_with fail
        go_region_with ((go_at_call 16; refine (BY.out _ f0).mono ?_; rintro e wd ⟨a5, c5, rfl, hod, hfd⟩; have f1 : Frm [] wx wd := f0.trans hfd (by simp) (by simp); have cv2 := run_to_string (P := Try.prog) (src := 29) (dst := 9) (e := 5) Try.underlying29 Try.underlying5 Try.underlying9 (n := l.length) (c := c5) (own_bytes hod H8E.out).1 rfl; have k2d := (f1.whole HWM.out (by simp)).cell 2; simp at k2d))
        all_goals
          clear cv cv2
          go_wp2
          go_ret
          exact ⟨rfl, (HFE.out.trans f1 (U := []) (by simp) (by simp)).new⟩
      by_cases h500 : 500 < bs.length
      · have hbx := HB.out.keep ((Frm.refl [] wr).alloc (.cells #[.int .u8 tk, .slice ba bs.length bc, .int .i64 tn, .int .i64 keep, .int .i64 bit] 33))
        obtain ⟨wx, hwx⟩ : ∃ wx, wx = wr.alloc (.cells #[.int .u8 tk, .slice ba bs.length bc, .int .i64 tn, .int .i64 keep, .int .i64 bit] 33) := ⟨_, rfl⟩
        go_wp2_with fail
        rw [← hwx] at hbx ⊢
        clear hwx
        obtain ⟨am, cm, hwm, hbm, hnm, _⟩ := hbx.rf.whole
        have k2 := hwm.cell 2
        simp at k2
        have HBM := Lib.hid hbm
        have HDE := Lib.hid hbx.dk
        have H8E := Lib.hid hbx.dk.1.1
        have HWM := Lib.hid hwm
        have HFE := Lib.hid hbx.frm
        have cv : ∀ w', Frm [] wx w' → (convert 29 9 (.slice am l.length cm)).run Try.prog w' = .ok (.string (strOf l)) w' := fun w' hf =>
          run_to_string Try.underlying29 Try.underlying5 Try.underlying9 (hf.bytes HBM.out (by simp)) rfl
        have BY := Lib.hid (fun (w' : World) (hf : Frm [] wx w') => bytes_any (HDE.out.keep hf (by simp)))
        have f0 : Frm [] wx (wx).drew := (Frm.refl _ _).drew
        clear hbm hwm hnm
        go_wp2_with fail
        go_region_with ((go_at_call 16; refine (BY.out _ f0).mono ?_; rintro e wd ⟨a5, c5, rfl, hod, hfd⟩; have f1 : Frm [] wx wd := f0.trans hfd (by simp) (by simp); have cv2 := run_to_string (P := Try.prog) (src := 29) (dst := 9) (e := 5) Try.underlying29 Try.underlying5 Try.underlying9 (n := l.length) (c := c5) (own_bytes hod H8E.out).1 rfl; have k2d := (f1.whole HWM.out (by simp)).cell 2; simp at k2d))
        all_goals
          clear cv cv2
          go_wp2
          go_ret
          exact ⟨rfl, (HFE.out.trans f1 (U := []) (by simp) (by simp)).new⟩
      have hmod : tk % 5 < 5 := Nat.mod_lt _ (by decide)
      obtain ⟨m5, hm5⟩ : ∃ m5, m5 = tk % 5 := ⟨_, rfl⟩
      rw [← hm5] at hmod
      have hk5 : (tk : Int) % 5 = (m5 : Int) := by rw [hm5]; rfl
      clear hm5
      have HA := Lib.hid ((Frm.refl [] wr).alloc (.cells #[.int .u8 tk, .slice ba bs.length bc, .int .i64 tn, .int .i64 keep, .int .i64 bit] 33))
      have HW := Lib.hid (Whole.made wr 33 #[.int .u8 tk, .slice ba bs.length bc, .int .i64 tn, .int .i64 keep, .int .i64 bit])
      have HB1 := Lib.hid (HB.out.keep HA.out)
      have hold := HB.out.old (Nat.le_refl _)
      obtain ⟨c, hc⟩ : ∃ c, c = wr.heap.size := ⟨_, rfl⟩
      rw [← hc] at HW hold
      have hbs : bs.length ≤ 500 := by omega
      have hwc : w.heap.size ≤ c := by have := HB.out.frm.size; omega
      have HC := Lib.hid hc; clear hc
      have HO := Lib.hid hold; clear hold
      clear h500
      go_upto_block 2 with (fail)
      rw [← HC.out]
      obtain ⟨wa, hwa⟩ : ∃ wa, wa = wr.alloc (.cells #[.int .u8 tk, .slice ba bs.length bc, .int .i64 tn, .int .i64 keep, .int .i64 bit] 33) := ⟨_, rfl⟩
      rw [← hwa] at HA HW HB1 ⊢
      have HWA := Lib.hid hwa; clear hwa
      have hclt : c < wa.heap.size := HW.out.lt
      clear q0 q1 q2 q3 q4
      have q1 := HW.out.cell 1
      have q2 := HW.out.cell 2
      have q3 := HW.out.cell 3
      have q4 := HW.out.cell 4
      simp at q1 q2 q3 q4
      go_cut [10, 11, 12, 56] (fun _ _ _ _ wx => Mid w p m k room wx)
      case first =>
        have hcs : m5 = 2 ∨ m5 = 3 ∨ m5 = 4 ∨ m5 = 0 ∨ m5 = 1 := by omega
        rcases hcs with rfl | rfl | rfl | rfl | rfl
        · go_wp2_with fail
          refine (sync_any HB1.out.dk).mono ?_
          rintro e w3 ⟨rfl, hd3⟩
          obtain ⟨F3, hb3, hf3, hx3⟩ := HB1.out.dkTo hd3
          obtain ⟨am, cm, hw3, _⟩ := hb3.rf.whole
          obtain ⟨G4, hb4, hf4, hx4⟩ := hb3.rfTo hb3.rf.sync
          have e2 := hw3.cell 2
          have g1 := hw3.free 1
          have e1 := hw3.cell 1
          simp at e1 e2
          have R : Mid w p m k room (w3.setCell ⟨m, 1, none⟩ (.int .i64 (l.length : Nat))) := ⟨F3, G4, l, l.length, hb4, by omega⟩
          have HR := Lib.hid R
          obtain ⟨q, hq⟩ : ∃ q, q = l.length := ⟨_, rfl⟩
          rw [← hq] at HR e2
          clear R hb3 hf3 hx3 hd3 hw3 hb4 hf4 hx4 hq
          go_wp2_with fail
          go_meet
          case rel => exact HR.out
        · by_cases hbad : tn < 0 ∨ (l.length : Int) < tn
          · have C1 := Lib.hid (fun (q : Nat) => cutm_bad tn (HB1.out.dk.keep ((Frm.refl [] wa).drewN q) (by simp)) hbad)
            have C2 := Lib.hid (fun (q : Nat) => rcut_bad tn (HB1.out.rf.keep ((Frm.refl [] wa).drewN q) (by simp)) hbad)
            clear hbad
            go_wp2_with fail
            go_quiet (first | (go_at_call 12; exact Calls.quiet_of_same ((C1.out _).mono fun _ _ h => ⟨h.1, h.2.symm⟩)) | (go_at_call 13; exact Calls.quiet_of_same ((C2.out _).mono fun _ _ h => ⟨h.1, h.2.symm⟩)))
            go_wp2_with fail
            go_meet
            case rel => exact ⟨F, G, l, s, HB1.out.keep ((Frm.refl [] wa).drewN nq), by omega⟩
          · obtain ⟨nn, rfl⟩ : ∃ nn : Nat, tn = nn := ⟨tn.toNat, by omega⟩
            have hnn : nn ≤ l.length := by omega
            clear hbad
            have hb0 := HB1.out.keep ((Frm.refl [] wa).drew)
            have hw0 := HW.out.drew
            have hcl : (l.take nn).length ≤ 500 * (k + 1) := by simp; omega
            go_wp2_with fail
            go_region_with (first
              | (go_at_call 12; refine (cutm_ok nn hb0.dk hnn).mono ?_; rintro e w3 ⟨rfl, hd3⟩; obtain ⟨F3, hb3, hf3, hx3⟩ := hb0.dkTo hd3; have hw3 := hf3.whole hw0 HO.out.1; have r2 := hw3.cell 2; simp at r2)
              | (go_at_call 12; refine (cutm_ok nn hb4.dk hnn).mono ?_; rintro e w5 ⟨rfl, hd5⟩; obtain ⟨F5, hbe, hf5, hx5⟩ := hb4.dkTo hd5)
              | (go_at_call 13; refine (rcut_ok nn hb0.rf hnn).mono ?_; rintro e w4 ⟨rfl, hd4⟩; obtain ⟨G4, hb4, hf4, hx4⟩ := hb0.rfTo hd4; have hw4 := hf4.whole hw0 HO.out.2; have r2 := hw4.cell 2; simp at r2)
              | (go_at_call 13; refine (rcut_ok nn hb3.rf hnn).mono ?_; rintro e w5 ⟨rfl, hd5⟩; obtain ⟨F5, hbe, hf5, hx5⟩ := hb3.rfTo hd5))
            all_goals
              have HR : Hid (Mid w p m k room w5) := Lib.hid ⟨_, _, _, _, hbe, hcl⟩
              clear hbe hf5 hx5 hd5
              go_wp2_with fail
              go_meet
              case rel => exact HR.out
        · go_wp2_with fail
          refine (crash_any keep bit HB1.out.dk).mono ?_
          rintro e w3 ⟨rfl, hd3⟩
          obtain ⟨F3, hb3, hf3, hx3⟩ := HB1.out.dkTo hd3
          have hw3 := hf3.whole HW.out HO.out.1
          have HB3 := Lib.hid hb3
          clear q1 q2 q3 q4
          have q3 := hw3.cell 3
          have q4 := hw3.cell 4
          simp at q3 q4
          clear hw3 hb3 hf3 hx3 hd3
          go_wp2_with fail
          refine (rcrash_any keep bit HB3.out.rf).mono ?_
          rintro e w4 ⟨rfl, hd4⟩
          obtain ⟨G4, hb4, hf4, hx4⟩ := HB3.out.rfTo hd4
          have HR : Hid (Mid w p m k room w4) := ⟨F3, G4, _, _, hb4, by have := crashed_le (l := l) (s := s) (keep := keep) (bit := bit) HB1.out.dk.1.2.2.1; omega⟩
          clear hb4 hf4 hx4 hd4
          go_wp2_with fail
          go_meet
          case rel => exact HR.out
        all_goals
          obtain ⟨wo, rfl⟩ : ∃ wo : World, wo = wr := ⟨_, rfl⟩
          have HAL := Lib.hid ((Frm.refl [] wa).alloc (.cells #[] 5))
          have hw1 := HAL.out.whole HW.out (by simp)
          have r1 := hw1.cell 1
          simp at r1
          clear hw1
          obtain ⟨i0, hi, hz0, hz1, hz2⟩ := info_parts Try.info5
          have HI := Lib.hid hi; clear hi
          have HZ0 := Lib.hid hz0; clear hz0
          have HZ1 := Lib.hid hz1; clear hz1
          have HZ2 := Lib.hid hz2; clear hz2
          have HBS0 : Hid (Bytes w ba bs) := Lib.hid OK.out.bs_b
          have HBS : Hid (Bytes wa ba bs) := Lib.hid (HB1.out.frm.bytes HBS0.out (by simp))
          have HNIL : Hid (ba = none → bc = 0) := Lib.hid OK.out.bs_nil
          go_wp2_with (at_builtin; refine wpList_append_bytes rfl (.tmp 72) (.tmp 74) 29 rfl wa.heap.size 5 i0 Try.underlying29 HI.out HZ0.out HZ1.out HZ2.out _ 0 [] rfl ?own1 _ _ _ bs rfl ?b1 rfl HNIL.out ?fit1 ?base1 ?_)
          case own1 => exact World.ownsRow_lit wa #[] 0 (Nat.le_refl _) (by unfold maxLen; omega) rfl
          case b1 => exact HAL.out.bytes HBS.out (by simp)
          case fit1 => omega
          case base1 => simp
          intro ab capb w4 hown4 hg4
          have HG4 := Lib.hid (HAL.out.grown hg4 (fun k hk => by simp [Value.ownBlock] at hk; right; omega))
          have hb4 := HB1.out.keep HG4.out
          have HB4 := Lib.hid hb4
          have HO4 := Lib.hid hown4
          have hw4 := HG4.out.whole HW.out (by simp)
          have HW4 := Lib.hid hw4
          clear hg4 hown4 hb4 hw4 r1 q1 q2 q3 q4
          have hwal : w.heap.size ≤ wa.heap.size := by omega
          by_cases hfull : room < l.length + bs.length
          · have AF := Lib.hid (append_full ab bs.length capb HB4.out.dk (by omega) hfull)
            have HFU := Lib.hid hfull
            go_wp2_with fail
            refine AF.out.mono ?_
            rintro e w5 ⟨rfl, q5, hw5⟩
            have hfq : Frm [] w4 w5 := by rw [hw5]; exact (Frm.refl _ _).drewN q5
            have HB5 := Lib.hid (HB4.out.keep hfq)
            have HO5 := Lib.hid (hfq.own HO4.out (by simp))
            have HW5 := Lib.hid (hfq.whole HW4.out (by simp))
            have H8 := Lib.hid HBS0.out.1
            have HAP : Hid (∀ x ∈ blk ab, w.heap.size ≤ x ∧ x ∉ F ∧ x ∉ G) := by
              intro x hx
              have h1 := ((Hd.ofOwn HO4.out).2.blk_lt x hx).1
              have h2 := HB1.out.old h1
              exact ⟨by omega, h2.1, h2.2⟩
            have HCP : Hid (c ∉ blk ab) := by
              intro hx
              have h1 := ((Hd.ofOwn HO4.out).2.blk_lt c hx).1
              omega
            clear hfq hw5
            clear hfull
            go_wp2_with fail
            go_loopw [81] (fun i wr => SpRel w5 wa.heap.size 5 ab bs.length capb i wr) (fun i _ => bs.length - (intOf i).toNat)
            case atStart => exact Spoilt.start HO5.out H8.out
            case round =>
              obtain ⟨j, cc, hj, rfl, hsp⟩ := hrel
              by_cases hjl : j < bs.length
              · obtain ⟨g, d, rfl, hd8, cj, fj, hmc, hst⟩ := hsp.at hjl
                have hx := all_bits d hd8
                have HST := Lib.hid hst
                clear hst hsp
                have hjl2 : (j : Int) < (bs.length : Int) := by omega
                go_wp2_with fail
                go_roundw
                case rel => exact ⟨j + 1, _, hjl, by go_num, HST.out⟩
                case measure => simp [intOf]; omega
              · obtain rfl : j = bs.length := by omega
                have hb6 := HB5.out.keepS hsp.frm HAP.out
                have HB6 := Lib.hid hb6
                have hw6 := hsp.frm.whole HW5.out (fun hm => HCP.out hm)
                have r1 := hw6.cell 1
                simp at r1
                have HBY : Hid (Bytes wr ba bs) := Lib.hid (hb6.frm.bytes HBS0.out (by simp))
                clear hsp hb6 hw6
                go_wp2_with fail
                refine (rappend_full ba bs.length bc HB6.out.rf (by omega) HFU.out).mono ?_
                rintro e w7 ⟨rfl, q7, hw7⟩
                have hfq : Frm [] wr w7 := by rw [hw7]; exact (Frm.refl _ _).drewN q7
                have HR : Hid (Mid w p m k room w7) := ⟨_, _, _, _, HB6.out.keep hfq, by omega⟩
                clear hfq hw7
                go_wp2_with fail
                go_meet
                case rel => exact HR.out
          · have hfit : l.length + bs.length ≤ room := by omega
            have AF := Lib.hid (append_ok ab bs.length capb bs HB4.out.dk (bytes_of_own HO4.out HBS0.out.1).2.1 rfl (bytes_of_own HO4.out HBS0.out.1).2.2 hfit)
            have HFU := Lib.hid hfit
            go_wp2_with fail
            refine AF.out.mono ?_
            rintro e w5 ⟨rfl, hd5⟩
            obtain ⟨F5, hb5, hf5, hx5⟩ := HB4.out.dkTo hd5
            have HB5 := Lib.hid hb5
            have hgF : ∀ x ∈ blk ab, x ∉ F := fun x hx => (HB1.out.old ((Hd.ofOwn HO4.out).2.blk_lt x hx).1).1
            have HO5 := Lib.hid (hf5.own HO4.out (fun g hg => hgF g (by cases ab with | none => simp [Value.ownBlock] at hg | some y => simp [Value.ownBlock] at hg; simp [hg])))
            have HW5 := Lib.hid (hf5.whole HW4.out HO.out.1)
            have H8 := Lib.hid HBS0.out.1
            have HAP : Hid (∀ x ∈ blk ab, w.heap.size ≤ x ∧ x ∉ F5 ∧ x ∉ G) := by
              intro x hx
              have h1 := (Hd.ofOwn HO4.out).2.blk_lt x hx
              have h2 := HB1.out.old h1.1
              refine ⟨by omega, fun hm => ?_, h2.2⟩
              rcases hx5 x hm with h3 | h3
              · exact h2.1 h3
              · omega
            have HCP : Hid (c ∉ blk ab) := by
              intro hx
              have h1 := ((Hd.ofOwn HO4.out).2.blk_lt c hx).1
              omega
            have hlen2 : (l ++ bs).length ≤ 500 * (k + 1) := by simp; omega
            have HL2 := Lib.hid hlen2
            clear hb5 hf5 hx5 hd5 hgF hfit hlen2
            clear hfull
            go_wp2_with fail
            go_loopw [81] (fun i wr => SpRel w5 wa.heap.size 5 ab bs.length capb i wr) (fun i _ => bs.length - (intOf i).toNat)
            case atStart => exact Spoilt.start HO5.out H8.out
            case round =>
              obtain ⟨j, cc, hj, rfl, hsp⟩ := hrel
              by_cases hjl : j < bs.length
              · obtain ⟨g, d, rfl, hd8, cj, fj, hmc, hst⟩ := hsp.at hjl
                have hx := all_bits d hd8
                have HST := Lib.hid hst
                clear hst hsp
                have hjl2 : (j : Int) < (bs.length : Int) := by omega
                go_wp2_with fail
                go_roundw
                case rel => exact ⟨j + 1, _, hjl, by go_num, HST.out⟩
                case measure => simp [intOf]; omega
              · obtain rfl : j = bs.length := by omega
                have hb6 := HB5.out.keepS hsp.frm HAP.out
                have HB6 := Lib.hid hb6
                have hw6 := hsp.frm.whole HW5.out (fun hm => HCP.out hm)
                have r1 := hw6.cell 1
                simp at r1
                have HBY : Hid (Bytes wr ba bs) := Lib.hid (hb6.frm.bytes HBS0.out (by simp))
                clear hsp hb6 hw6
                go_wp2_with fail
                refine (rappend_ok ba bs.length bc bs HB6.out.rf HBY.out rfl HNIL.out HFU.out).mono ?_
                rintro e w7 ⟨rfl, hd7⟩
                obtain ⟨G7, hb7, hf7, hx7⟩ := HB6.out.rfTo hd7
                have HR : Hid (Mid w p m k room w7) := ⟨_, _, _, _, hb7, HL2.out⟩
                clear hb7 hf7 hx7 hd7
                go_wp2_with fail
                go_meet
                case rel => exact HR.out
      case rest =>
        obtain ⟨F2, G2, L, S, hmid, hL⟩ := hcut
        clear q1 q2 q3 q4 hk5 hmod HA HW HB1 HC HO HWA hclt
        have HMB := Lib.hid hmid; clear hmid
        have hL2 : L.length ≤ 30500 := by omega
        obtain ⟨L1, hL1⟩ : ∃ L1, L1 = L.length := ⟨_, rfl⟩
        rw [← hL1] at hL hL2
        have HL1 := Lib.hid hL1; clear hL1
        go_wp2_with fail
        refine (bytes_any HMB.out.dk).mono ?_
        rintro e w8 ⟨ax, cx, rfl, ho8, hf8⟩
        rw [← HL1.out] at ho8 ⊢
        have hb8 := HMB.out.keep hf8
        have HB8 := Lib.hid hb8
        have HO8 := Lib.hid ho8
        have H8 := Lib.hid hb8.dk.1.1
        obtain ⟨am, cm, hwm, hbm, hnm, _⟩ := hb8.rf.whole
        rw [← HL1.out] at hwm
        have k1 := hwm.cell 1
        have k2 := hwm.cell 2
        simp at k1 k2
        have HBM := Lib.hid hbm
        have HBX := Lib.hid (bytes_of_own ho8 hb8.dk.1.1).2.1
        have hS : S ≤ 30500 := by have := hb8.dk.1.2.2.1; have := HL1.out; omega
        have cv1 : ∀ q, (convert 29 9 (.slice ax L1 cx)).run Try.prog (w8.drewN q) = .ok (.string (strOf L)) (w8.drewN q) := fun q =>
          run_to_string Try.underlying29 Try.underlying5 Try.underlying9 (((Frm.refl [] w8).drewN q).bytes HBX.out (by simp)) HL1.out
        have cv2 : ∀ q, (convert 29 9 (.slice am L1 cm)).run Try.prog (w8.drewN q) = .ok (.string (strOf L)) (w8.drewN q) := fun q =>
          run_to_string Try.underlying29 Try.underlying5 Try.underlying9 (((Frm.refl [] w8).drewN q).bytes HBM.out (by simp)) HL1.out
        have SU := Lib.hid (fun (q : Nat) => sure_any (hb8.dk.keep ((Frm.refl [] w8).drewN q) (by simp)))
        obtain ⟨T, hT⟩ : ∃ T, T = strOf L := ⟨_, rfl⟩
        rw [← hT] at cv1 cv2
        have HAP : Hid (∀ x ∈ blk ax, w.heap.size ≤ x ∧ x ∉ F2 ∧ x ∉ G2) := by
          intro x hx
          have h1 := ((Hd.ofOwn HO8.out).2.blk_lt x hx).1
          have h2 := HMB.out.old h1
          have h3 := HMB.out.frm.size
          exact ⟨by omega, h2.1, h2.2⟩
        clear hwm hbm hnm hb8 ho8 hf8 hT
        go_wp2_with fail
        go_quiet ((go_at_call 17; exact Calls.quiet_of_same ((SU.out _).mono fun _ _ h => ⟨h.1, h.2.symm⟩)))
        clear cv1 cv2 k1 k2
        have HBQ := Lib.hid (HB8.out.keep ((Frm.refl [] w8).drewN nq))
        have HOQ := Lib.hid (((Frm.refl [] w8).drewN nq).own HO8.out (by simp))
        obtain ⟨wq, hwq⟩ : ∃ wq, wq = w8.drewN nq := ⟨_, rfl⟩
        rw [← hwq] at HBQ HOQ ⊢
        clear hwq SU
        obtain ⟨wo, rfl⟩ : ∃ wo : World, wo = wr := ⟨_, rfl⟩
        go_wp2_with fail
        go_loopw [141] (fun i wr => SpRel wq wc.heap.size 5 ax L1 cx i wr) (fun i _ => L1 - (intOf i).toNat)
        case atStart => exact Spoilt.start HOQ.out H8.out
        case round =>
          obtain ⟨j, cc, hj, rfl, hsp⟩ := hrel
          by_cases hjl : j < L1
          · obtain ⟨g, d, rfl, hd8, cj, fj, hmc, hst⟩ := hsp.at hjl
            have hx := all_bits d hd8
            have HST := Lib.hid hst
            clear hst hsp
            have hjl2 : (j : Int) < (L1 : Int) := by omega
            go_wp2_with fail
            go_roundw
            case rel => exact ⟨j + 1, _, hjl, by go_num, HST.out⟩
            case measure => simp [intOf]; omega
          · obtain rfl : j = L1 := by omega
            have HBN := Lib.hid (HBQ.out.keepS hsp.frm HAP.out)
            clear hsp
            go_wp2_with fail
            go_roundw
            case rel => exact ⟨k + 1, F2, G2, L, S, hlt, by go_num, HBN.out, by have := HL1.out; omega⟩
            case measure => simp [intOf]; omega
    · obtain rfl : k = n := by omega
      have hbx := HB.out
      go_wp2_with fail
      obtain ⟨am, cm, hwm, hbm, hnm, _⟩ := hbx.rf.whole
      have k2 := hwm.cell 2
      simp at k2
      have HBM := Lib.hid hbm
      have HDE := Lib.hid hbx.dk
      have H8E := Lib.hid hbx.dk.1.1
      have HWM := Lib.hid hwm
      have HFE := Lib.hid hbx.frm
      have cv : ∀ w', Frm [] wr w' → (convert 29 9 (.slice am l.length cm)).run Try.prog w' = .ok (.string (strOf l)) w' := fun w' hf =>
        run_to_string Try.underlying29 Try.underlying5 Try.underlying9 (hf.bytes HBM.out (by simp)) rfl
      have BY := Lib.hid (fun (w' : World) (hf : Frm [] wr w') => bytes_any (HDE.out.keep hf (by simp)))
      have f0 : Frm [] wr (wr).drew := (Frm.refl _ _).drew
      clear hbm hwm hnm
      go_wp2_with fail
      go_region_with ((go_at_call 16; refine (BY.out _ f0).mono ?_; rintro e wd ⟨a5, c5, rfl, hod, hfd⟩; have f1 : Frm [] wr wd := f0.trans hfd (by simp) (by simp); have cv2 := run_to_string (P := Try.prog) (src := 29) (dst := 9) (e := 5) Try.underlying29 Try.underlying5 Try.underlying9 (n := l.length) (c := c5) (own_bytes hod H8E.out).1 rfl; have k2d := (f1.whole HWM.out (by simp)).cell 2; simp at k2d))
      all_goals
        clear cv cv2
        go_wp2
        go_ret
        exact ⟨rfl, (HFE.out.trans f1 (U := []) (by simp) (by simp)).new⟩

theorem diskPlays_walk (room : Int) (a : Option Addr) (n cap : Nat) (ts : List Ac) (w : World) (_w0 : (Lit.int .i64 room).wf = true) (h : Acs w a ts) (hn : n = ts.length) (hn63 : n ≤ 9223372036854775807) :
    Calls Try.prog 3 #[.int .i64 room, .slice a n cap] w fun e w' => e = .returned (.bool true) ∧ Below w.heap.size w w' := by
  by_cases hr : room < 0 ∨ 16777216 < room
  · exact diskPlays_bad room _ w hr
  · obtain ⟨r, rfl⟩ : ∃ r : Nat, room = r := ⟨room.toNat, by omega⟩
    exact diskPlays_main r a n cap ts w (by omega) h hn hn63
end Go.Proofs.Ytibaloloheakpaa
