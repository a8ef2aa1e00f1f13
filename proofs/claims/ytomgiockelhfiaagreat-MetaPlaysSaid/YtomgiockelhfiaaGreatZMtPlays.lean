/- The walk of 'mailcoachlaw08.MetaPlays'. -/
import Derived.Test.YtomgiockelhfiaaGreatZMtTw2
import Derived.Test.YtomgiockelhfiaaGreatZHeld
import Derived.Test.YtomgiockelhfiaaGreatZOpBs
namespace Go.Proofs.YtomgiockelhfiaaGreat
open Go.RowKit
set_option maxRecDepth 100000
def MpRel (w0 : World) (dp q m n room : Nat) (s43 s9 : Value) (wr : World) : Prop :=
  ∃ (j k : Nat) (S : MS) (l : List Nat), j ≤ n ∧ j ≤ 41 ∧ s43 = .int .i64 (j : Nat) ∧ s9 = .pointer (some ⟨k, 0, none⟩) ∧ Hid (Tm w0 wr [] k dp q m room S l) ∧ Hid (MOk S) ∧ Hid (MVer j S) ∧ Hid (Rc S l)

set_option maxHeartbeats 16000000 in
theorem metaPlays_walk (r0 : Nat) (a0 : Option Addr) (n cap : Nat) (ts : List Cm) (a1 : Option Addr) (n1 c1 : Nat) (bs : List Bool) (w : World) (hr : r0 < 4294967296) (h : Cms w a0 ts) (hn : n = ts.length) (hn63 : n ≤ 9223372036854775807) (h1 : BIn w a1 bs) (e1 : n1 = bs.length) (_f1 : n1 ≤ 9223372036854775807) :
    Calls Tryz.prog 3 #[.int .u32 (r0 : Nat), .slice a0 n cap, .slice a1 n1 c1] w fun e w' => e = .returned (.bool true) ∧ Below w.heap.size w w' := by
  have HAW := Lib.hid (awake8_any w)
  have HN := Lib.hid hn
  have H := Lib.hid h
  have H1 := Lib.hid h1
  have E1 := Lib.hid e1
  obtain ⟨room, hroom⟩ : ∃ room, room = r0 % 1048576 := ⟨_, rfl⟩
  have hrl : room < 1048576 := by omega
  have hr1 : IntKind.i64.wrap (room : Int) = (room : Int) := by simp [IntKind.wrap, IntKind.bits, IntKind.signed]; omega
  have HR2 : Hid ((r0 : Int) % 1048576 = (room : Int)) := Lib.hid (by rw [hroom]; omega)
  have HDN := Lib.hid (fun w1 => new_ok room w1 (by omega))
  clear h hn h1 e1 hroom
  go_enter Tryz.func3, Tryz.ntmps3
  go_wp2_with fail
  (with_reducible refine HAW.out.mono ?_)
  rintro e w1 ⟨rfl, hb1⟩
  have HF1 := Lib.hid (Frm.ofBelow hb1); clear hb1 HAW
  go_wp2_with fail
  rw [HR2.out]
  (with_reducible refine (HDN.out _).mono ?_)
  rintro e w2 ⟨rfl, hd2, hf2, hz2⟩
  obtain ⟨dp, hdp⟩ : ∃ dp, dp = w1.heap.size := ⟨_, rfl⟩
  rw [← hdp] at hd2 ⊢
  have HO := Lib.hid (kopen_low w w2 dp room hd2 (HF1.out.trans hf2 (U := []) (by simp) (by simp)) (by rw [hdp]; exact HF1.out.size))
  clear hd2 hf2 hz2 hdp HF1 HDN
  go_wp2_with fail
  (with_reducible refine HO.out.mono ?_)
  rintro e w3 ⟨k, jq, Fd, rfl, hk3, hf3⟩
  have HTM := Lib.hid (tm_new hk3 hf3 (by omega))
  obtain ⟨w4, hw4⟩ : ∃ w4, w4 = ((w3.alloc (.cells #[.int .i64 (room : Nat), .int .i64 0, .slice none 0 0] 37)).alloc (.cells #[.int .u64 0, .slice none 0 0, .int .u64 0, .slice none 0 0, .pointer (some ⟨w3.heap.size, 0, none⟩)] 48)) := ⟨_, rfl⟩
  obtain ⟨m, hm⟩ : ∃ m, m = w3.heap.size := ⟨_, rfl⟩
  obtain ⟨q, hq⟩ : ∃ q, q = w3.heap.size + 1 := ⟨_, rfl⟩
  rw [← hw4, ← hq, ← hm] at HTM
  have HR0 : Hid (MpRel w dp q m n room (.int .i64 (0 : Nat)) (.pointer (some ⟨k, 0, none⟩)) w4) := Lib.hid ⟨0, k, {}, [], Nat.zero_le _, by omega, rfl, rfl, HTM, Lib.hid MOk.first, Lib.hid (MVer.first 0), Lib.hid Rc.first⟩
  rw [← hm] at hw4
  have HW4 := Lib.hid hw4
  have HMM := Lib.hid hm
  have HQ := Lib.hid hq
  clear hk3 hf3 HO HTM hw4 hm hq
  go_wp2
  rw [HR2.out, ← HQ.out, ← HMM.out, ← HW4.out]
  clear HW4 HQ HMM
  go_loopw [43, 9] (fun s43 s9 wr => MpRel w dp q m n room s43 s9 wr) (fun s43 _ _ => n - (intOf s43).toNat)
  case atStart => exact HR0.out
  case round =>
    clear HR0 HR2 hr1
    obtain ⟨j, k, S, l, hj, hj41, rfl, rfl, HT, HM, HV, HRC⟩ := hrel
    have HF := Lib.hid HT.out.frm
    by_cases hlt : j < n
    · obtain ⟨b, off, rfl, hin⟩ := (H.out.keep HF.out) (by have := HN.out; omega)
      have hi := hin j (by have := HN.out; omega)
      obtain ⟨t, ht⟩ : ∃ t, t = ts.getD j default := ⟨_, rfl⟩
      rw [← ht] at hi
      obtain ⟨p0, p1, p2, p3, p4, p5, hok⟩ := hi
      have hw0v : t.val ≠ [] → ∀ x, t.valA = some x → x.block < w.heap.size := fun hne x hx => by
        obtain ⟨b0, off0, _, hin0⟩ := H.out (by have := HN.out; omega)
        have h0 := (hin0 j (by have := HN.out; omega))
        rw [← ht] at h0
        obtain ⟨_, _, _, _, _, _, hok0⟩ := h0
        exact bytes_lt hok0.val_b hne x hx
      have HWV := Lib.hid hw0v
      clear hw0v
      by_cases h40 : 40 < j
      · have hgt : decide ((40 : Int) < (j : Int)) = true := decide_eq_true (by omega)
        clear hin ht
        go_wp2
        go_ret
        exact ⟨rfl, (HF.out.alloc _).below (by simp) (Nat.le_refl _)⟩
      · have hgt : decide ((40 : Int) < (j : Int)) = false := decide_eq_false (by omega)
        obtain ⟨w4, hw4⟩ : ∃ w4, w4 = wr.alloc (.cells #[.int .u8 (t.k : Nat), .string t.key, .slice t.valA t.val.length t.valC, .int .u64 (t.want : Nat), .int .u64 (t.ses : Nat), .int .u64 (t.ticks : Nat)] 51) := ⟨_, rfl⟩
        obtain ⟨g, hg⟩ : ∃ g, g = wr.heap.size := ⟨_, rfl⟩
        have hW4 := Whole.made wr 51 #[.int .u8 (t.k : Nat), .string t.key, .slice t.valA t.val.length t.valC, .int .u64 (t.want : Nat), .int .u64 (t.ses : Nat), .int .u64 (t.ticks : Nat)]
        rw [← hw4, ← hg] at hW4
        have hf4 : Frm [] wr w4 := by rw [hw4]; exact (Frm.refl _ _).alloc _
        have HLO := Lib.hid (mlong_any t w4 hok.key_le (by have := hok.val_b.2.1; exact this))
        rw [show t.value = .agg #[.int .u8 (t.k : Nat), .string t.key, .slice t.valA t.val.length t.valC, .int .u64 (t.want : Nat), .int .u64 (t.ses : Nat), .int .u64 (t.ticks : Nat)] from rfl] at HLO
        have HW4 := Lib.hid hw4
        have HG := Lib.hid hg
        have HWG := Lib.hid hW4
        have HOK := Lib.hid (hok.keep hf4)
        have HBV := Lib.hid hok.val_b
        have HF4 := Lib.hid hf4
        clear hin ht hok hw4 hg hW4 hf4
        cases hlong : longB t
        · rw [hlong] at HLO
          go_wp2_with fail
          rw [← HW4.out]
          (with_reducible refine HLO.out.mono ?_)
          rintro e w5 ⟨rfl, hf5⟩
          have HCM := Lib.hid (mcmd_any t w5 HOK.out.k_lt (longB_no hlong).1)
          rw [show t.value = .agg #[.int .u8 (t.k : Nat), .string t.key, .slice t.valA t.val.length t.valC, .int .u64 (t.want : Nat), .int .u64 (t.ses : Nat), .int .u64 (t.ticks : Nat)] from rfl] at HCM
          have HCO := Lib.hid (fun key hk => cm_ok HOK.out hlong key hk)
          obtain ⟨r, hr9⟩ : ∃ r, r = t.k % 9 := ⟨_, rfl⟩
          rw [← hr9] at HCM HCO
          clear hr9
          have hW5 := hf5.whole HWG.out (by simp)
          have c0 := hW5.cell 0
          have c1 := hW5.cell 1
          have c2 := hW5.cell 2
          have c3 := hW5.cell 3
          have c4 := hW5.cell 4
          have c5 := hW5.cell 5
          simp at c0 c1 c2 c3 c4 c5
          have HW5 := Lib.hid hW5
          have HF5 := Lib.hid (HF4.out.trans hf5 (U := []) (by simp) (by simp))
          rw [← HG.out]
          clear hf5 hW5 HLO p0 p1 p2 p3 p4 p5
          go_wp2_with fail
          (with_reducible refine HCM.out.mono ?_)
          rintro e w6 ⟨key, hks, rfl, hf6⟩
          obtain ⟨c, hc⟩ : ∃ c : MC, c = ⟨r, key, t.val, t.want, t.ses, t.ticks⟩ := ⟨_, rfl⟩
          have HC := Lib.hid (HCO.out key hks)
          rw [← hc] at HC
          have HCV : Hid (cmdV c t.valA t.valC = .agg #[.int .u8 (r : Nat), .string key, .slice t.valA t.val.length t.valC, .int .u64 (t.want : Nat), .int .u64 (t.ses : Nat), .int .u64 (t.ticks : Nat)]) := Lib.hid (by rw [hc]; rfl)
          have HCL : Hid (c.val = t.val) := Lib.hid (by rw [hc])
          clear hc
          obtain ⟨w7, hw7⟩ : ∃ w7, w7 = (((((w6.setCell ⟨g, 0, none⟩ (.int .u8 (r : Nat))).setCell ⟨g, 1, none⟩ (.string key)).setCell ⟨g, 2, none⟩ (.slice t.valA t.val.length t.valC)).setCell ⟨g, 3, none⟩ (.int .u64 (t.want : Nat))).setCell ⟨g, 4, none⟩ (.int .u64 (t.ses : Nat))).setCell ⟨g, 5, none⟩ (.int .u64 (t.ticks : Nat)) := ⟨_, rfl⟩
          have h6 := hf6.whole HW5.out (by simp)
          have h7 : Whole w7 g 51 #[.int .u8 (r : Nat), .string key, .slice t.valA t.val.length t.valC, .int .u64 (t.want : Nat), .int .u64 (t.ses : Nat), .int .u64 (t.ticks : Nat)] := by
            have := (((((h6.put 0 (.int .u8 (r : Nat))).put 1 (.string key)).put 2 (.slice t.valA t.val.length t.valC)).put 3 (.int .u64 (t.want : Nat))).put 4 (.int .u64 (t.ses : Nat))).put 5 (.int .u64 (t.ticks : Nat))
            rw [hw7]; simpa using this
          have hf7 : Frm [] wr w7 := by
            have h0 : Frm [] wr w6 := HF5.out.trans hf6 (U := []) (by simp) (by simp)
            have hg2 : wr.heap.size ≤ g := by have := HG.out; omega
            rw [hw7]
            exact (((((h0.setCell (.inr hg2) _).setCell (.inr hg2) _).setCell (.inr hg2) _).setCell (.inr hg2) _).setCell (.inr hg2) _).setCell (.inr hg2) _
          have HT7 : Hid (Tm w w7 [g] k dp q m room S l) := Lib.hid (HT.out.here hf7 (fun x hx => .inr (by simp at hx; have := HG.out; omega)) (fun x hx => by simp at hx; subst hx; exact h7.lt))
          have HF7 := Lib.hid hf7
          have HW7 := Lib.hid h7
          have HE7 := Lib.hid hw7
          have b0 := h6.cell 0
          have b1 := h6.cell 1
          have b2 := h6.cell 2
          have b3 := h6.cell 3
          have b4 := h6.cell 4
          have b5 := h6.cell 5
          have k0 := h6.free 0
          have k1 := h6.free 1
          have k2 := h6.free 2
          have k3 := h6.free 3
          have k4 := h6.free 4
          have k5 := h6.free 5
          simp at b0 b1 b2 b3 b4 b5
          have HDID := Lib.hid (fun z (hz : Frm [] w7 z) => mdid_any c t.valA t.valC (HT7.out.same hz) HM.out (fun d hd => by have := (HV.out d hd).1; omega) HC.out (by rw [HCL.out]; exact (HF7.out.trans hz (U := []) (by simp) (by simp)).bytes HBV.out (by simp)) (by rw [HCL.out]; exact HWV.out) HOK.out.val_nil)
          rw [HCV.out] at HDID
          unfold TmEnd at HDID
          clear hf6 h6 h7 hf7 hw7 HCM HCO c0 c1 c2 c3 c4 c5
          go_wp2
          rw [← HE7.out]
          clear b0 b1 b2 b3 b4 b5 k0 k1 k2 k3 k4 k5
          have d0 : ∀ y, Whole y g 51 #[.int .u8 (r : Nat), .string key, .slice t.valA t.val.length t.valC, .int .u64 (t.want : Nat), .int .u64 (t.ses : Nat), .int .u64 (t.ticks : Nat)] → y.cell? ⟨g, 0, none⟩ = some (.int .u8 (r : Nat)) := fun y hy => hy.cell 0
          have d1 : ∀ y, Whole y g 51 #[.int .u8 (r : Nat), .string key, .slice t.valA t.val.length t.valC, .int .u64 (t.want : Nat), .int .u64 (t.ses : Nat), .int .u64 (t.ticks : Nat)] → y.cell? ⟨g, 1, none⟩ = some (.string key) := fun y hy => hy.cell 1
          have d2 : ∀ y, Whole y g 51 #[.int .u8 (r : Nat), .string key, .slice t.valA t.val.length t.valC, .int .u64 (t.want : Nat), .int .u64 (t.ses : Nat), .int .u64 (t.ticks : Nat)] → y.cell? ⟨g, 2, none⟩ = some (.slice t.valA t.val.length t.valC) := fun y hy => hy.cell 2
          have d3 : ∀ y, Whole y g 51 #[.int .u8 (r : Nat), .string key, .slice t.valA t.val.length t.valC, .int .u64 (t.want : Nat), .int .u64 (t.ses : Nat), .int .u64 (t.ticks : Nat)] → y.cell? ⟨g, 3, none⟩ = some (.int .u64 (t.want : Nat)) := fun y hy => hy.cell 3
          have d4 : ∀ y, Whole y g 51 #[.int .u8 (r : Nat), .string key, .slice t.valA t.val.length t.valC, .int .u64 (t.want : Nat), .int .u64 (t.ses : Nat), .int .u64 (t.ticks : Nat)] → y.cell? ⟨g, 4, none⟩ = some (.int .u64 (t.ses : Nat)) := fun y hy => hy.cell 4
          have d5 : ∀ y, Whole y g 51 #[.int .u8 (r : Nat), .string key, .slice t.valA t.val.length t.valC, .int .u64 (t.want : Nat), .int .u64 (t.ses : Nat), .int .u64 (t.ticks : Nat)] → y.cell? ⟨g, 5, none⟩ = some (.int .u64 (t.ticks : Nat)) := fun y hy => hy.cell 5
          refine wp_region_held_drew (S := (fun y => Whole y g 51 #[.int .u8 (r : Nat), .string key, .slice t.valA t.val.length t.valC, .int .u64 (t.want : Nat), .int .u64 (t.ses : Nat), .int .u64 (t.ticks : Nat)])) (by kernel_rfl) HW7.out (fun hHeld => ?_)
          refine wpAnyH_take (i := 0) (oi := ⟨some 56, _, _, _, _, _⟩) (v := ?_) rfl (by kernel_rfl) (by kernel_rfl) (by kernel_rfl) (fun _ _ _ h => h) (Or.inl ⟨by rfl, ?_⟩) (by assumption) ?_
          rotate_left 1
          · (intro w hSw; (try dsimp only at hSw); go_simp; all_goals with_reducible rfl)
          try simp only [Act.put, List.setIfInBounds_toArray, List.set_cons_zero, List.set_cons_succ]
          refine wpAnyH_take (i := 1) (oi := ⟨some 57, _, _, _, _, _⟩) (v := ?_) rfl (by kernel_rfl) (by kernel_rfl) (by kernel_rfl) (fun _ _ _ h => h) (Or.inl ⟨by rfl, ?_⟩) (by assumption) ?_
          rotate_left 1
          · (intro w hSw; (try dsimp only at hSw); go_simp; all_goals with_reducible rfl)
          try simp only [Act.put, List.setIfInBounds_toArray, List.set_cons_zero, List.set_cons_succ]
          refine wpAnyH_take (i := 2) (oi := ⟨some 58, _, _, _, _, _⟩) (v := ?_) rfl (by kernel_rfl) (by kernel_rfl) (by kernel_rfl) (fun _ _ _ h => h) (Or.inl ⟨by rfl, ?_⟩) (by assumption) ?_
          rotate_left 1
          · (intro w hSw; (try dsimp only at hSw); go_simp; all_goals with_reducible rfl)
          try simp only [Act.put, List.setIfInBounds_toArray, List.set_cons_zero, List.set_cons_succ]
          refine wpAnyH_ready (rs := [3]) (by kernel_rfl) (by simp) ?_
          refine AllReadyH.cons (o := ⟨some 59, _, _, _, _, _⟩) rfl (fun K hK => ?_) AllReadyH.nil
          go_simp
          (go_at_call 12; (with_reducible refine (HDID.out _ (Frm.refl [] w7).drew).mono ?_); rintro e w8 ⟨rfl, htm8, T8, hf8, hT8, hz8⟩; have hW8 : Whole w8 g 51 #[.int .u8 (r : Nat), .string key, .slice t.valA t.val.length t.valC, .int .u64 (t.want : Nat), .int .u64 (t.ses : Nat), .int .u64 (t.ticks : Nat)] := hf8.whole HW7.out (hz8 g (by simp)))
          go_wp2_with fail
          refine hK.out _ _ (by assumption) (fun hHeld => ?_)
          clear hK K
          try simp only [Act.put, List.setIfInBounds_toArray, List.set_cons_zero, List.set_cons_succ]
          obtain ⟨S', hS'⟩ : ∃ S', S' = kS S l room c := ⟨_, rfl⟩
          obtain ⟨l', hl'⟩ : ∃ l', l' = kL S l room c := ⟨_, rfl⟩
          rw [← hS', ← hl'] at htm8
          have HM8 : Hid (MOk S') := Lib.hid (by rw [hS']; unfold kS; split; exact HM.out.does HC.out; exact HM.out)
          have HV8 : Hid (MVer (j + 1) S') := Lib.hid (by
            rw [hS']; unfold kS; split
            · exact HV.out.does (by omega)
            · exact fun d hd => ⟨(HV.out d hd).1, by have := (HV.out d hd).2; omega⟩)
          have hl8 : ∀ x ∈ l', x < 256 := by obtain ⟨_, _, _, hkp, _⟩ := htm8; exact hkp.dk.1.1
          have HRC8 : Hid (Rc S' l') := Lib.hid (by rw [hS', hl']; exact HRC.out.step HM.out HV.out HC.out (by rw [← hl']; exact hl8))
          have HT8 := Lib.hid htm8
          have HL8 := Lib.hid hl8
          have HF78 : Hid (∃ T, Frm T w7 w8 ∧ (∀ x ∈ T, w.heap.size ≤ x) ∧ ∀ x ∈ [g], x ∉ T) := Lib.hid ⟨T8, (Frm.refl [] w7).drew.trans hf8 (U := T8) (by simp) (fun x hx => .inl hx), hT8, hz8⟩
          have HW8 := Lib.hid hW8
          have HSH := Lib.hid (fun (z : World) (hz : Frm [] w8 z) => tm_shows t.ses (htm8.same hz) HM8.out)
          obtain ⟨da, dc, hdoc⟩ := tm_doc htm8
          obtain ⟨n8, hn8⟩ : ∃ n8, n8 = l'.length := ⟨_, rfl⟩
          have HN8 := Lib.hid hn8
          rw [← hn8] at hdoc
          have HDOC := Lib.hid hdoc
          have HBY := Lib.hid (fun (z : World) (hz : Frm [] w8 z) => (tm_bytes (htm8.same hz)).mono (fun e w' h => (show ∃ ab cb2, e = .returned (.slice ab n8 cb2) ∧ (Go.convert 35 9 (.slice ab n8 cb2)).run Tryz.prog w' = .ok (.string (strOf l')) w' ∧ Frm [] z w' from by
            obtain ⟨ab, cb2, he, ho, hf⟩ := h
            rw [← hn8] at he
            exact ⟨ab, cb2, he, run_to_string (P := Tryz.prog) (src := 35) (dst := 9) (e := 5) Tryz.underlying35 Tryz.underlying5 Tryz.underlying9 ho hn8, hf⟩)))
          have x4 : ∀ y, Frm [] w8 y → y.cell? ⟨q, 4, none⟩ = some (.pointer (some ⟨m, 0, none⟩)) := fun y hy => (HDOC.out y hy).1
          have x2 : ∀ y, Frm [] w8 y → y.cell? ⟨m, 2, none⟩ = some (.slice da n8 dc) := fun y hy => (HDOC.out y hy).2.1
          have xg : ∀ y, Frm [] w8 y → y.cell? ⟨g, 4, none⟩ = some (.int .u64 (t.ses : Nat)) := fun y hy => (hy.whole HW8.out (by simp)).cell 4
          have cvd : ∀ y, Frm [] w8 y → (Go.convert 35 9 (.slice da n8 dc)).run Tryz.prog y = .ok (.string (strOf l')) y := fun y hy =>
            run_to_string (P := Tryz.prog) (src := 35) (dst := 9) (e := 5) Tryz.underlying35 Tryz.underlying5 Tryz.underlying9 (HDOC.out y hy).2.2 HN8.out
          have heq : (((strOf l').toList != (strOf l').toList) = false) := by simp
          have S0 : Frm [] w8 w8 := Frm.refl _ _
          clear hS' hl' hl8 htm8 hdoc hn8 hf8 hT8 hz8 d0 d1 d2 d3 d4 d5 HDID
          refine wpAnyH_imp (S2 := fun y => Frm [] w8 y) (fun y hy => hy.whole HW8.out (by simp)) _ _ _ _ ?_
          clear hW8
          refine wpAnyH_take (i := 4) (oi := ⟨some 60, _, _, _, _, _⟩) (v := ?_) rfl (by kernel_rfl) (by kernel_rfl) (by kernel_rfl) (fun _ _ _ h => h) (Or.inl ⟨by rfl, ?_⟩) (by assumption) ?_
          rotate_left 1
          · (intro w hSw; (try dsimp only at hSw); go_simp; all_goals with_reducible rfl)
          try simp only [Act.put, List.setIfInBounds_toArray, List.set_cons_zero, List.set_cons_succ]
          refine wpAnyH_take (i := 5) (oi := ⟨some 61, _, _, _, _, _⟩) (v := ?_) rfl (by kernel_rfl) (by kernel_rfl) (by kernel_rfl) (fun _ _ _ h => h) (Or.inl ⟨by rfl, ?_⟩) (by assumption) ?_
          rotate_left 1
          · (intro w hSw; (try dsimp only at hSw); go_simp; all_goals with_reducible rfl)
          try simp only [Act.put, List.setIfInBounds_toArray, List.set_cons_zero, List.set_cons_succ]
          refine wpAnyH_take (i := 6) (oi := ⟨some 62, _, _, _, _, _⟩) (v := ?_) rfl (by kernel_rfl) (by kernel_rfl) (by kernel_rfl) (fun _ _ _ h => h) (Or.inl ⟨by rfl, ?_⟩) (by assumption) ?_
          rotate_left 1
          · (intro w hSw; (try dsimp only at hSw); go_simp; all_goals with_reducible rfl)
          try simp only [Act.put, List.setIfInBounds_toArray, List.set_cons_zero, List.set_cons_succ]
          refine wpAnyH_take (i := 7) (oi := ⟨some 63, _, _, _, _, _⟩) (v := ?_) rfl (by kernel_rfl) (by kernel_rfl) (by kernel_rfl) (fun _ _ _ h => h) (Or.inl ⟨by rfl, ?_⟩) (by assumption) ?_
          rotate_left 1
          · (intro w hSw; (try dsimp only at hSw); go_simp; all_goals with_reducible rfl)
          try simp only [Act.put, List.setIfInBounds_toArray, List.set_cons_zero, List.set_cons_succ]
          refine wpAnyH_take (i := 8) (oi := ⟨some 64, _, _, _, _, _⟩) (v := ?_) rfl (by kernel_rfl) (by kernel_rfl) (by kernel_rfl) (fun _ _ _ h => h) (Or.inl ⟨by rfl, ?_⟩) (by assumption) ?_
          rotate_left 1
          · (intro w hSw; (try dsimp only at hSw); go_simp; all_goals with_reducible rfl)
          try simp only [Act.put, List.setIfInBounds_toArray, List.set_cons_zero, List.set_cons_succ]
          refine wpAnyH_take (i := 9) (oi := ⟨some 65, _, _, _, _, _⟩) (v := ?_) rfl (by kernel_rfl) (by kernel_rfl) (by kernel_rfl) (fun _ _ _ h => h) (Or.inl ⟨by rfl, ?_⟩) (by assumption) ?_
          rotate_left 1
          · (intro w hSw; (try dsimp only at hSw); go_simp; all_goals with_reducible rfl)
          try simp only [Act.put, List.setIfInBounds_toArray, List.set_cons_zero, List.set_cons_succ]
          refine wpAnyH_take (i := 10) (oi := ⟨some 66, _, _, _, _, _⟩) (v := ?_) rfl (by kernel_rfl) (by kernel_rfl) (by kernel_rfl) (fun _ _ _ h => h) (Or.inl ⟨by rfl, ?_⟩) (by assumption) ?_
          rotate_left 1
          · (intro w hSw; (try dsimp only at hSw); go_simp; all_goals with_reducible rfl)
          try simp only [Act.put, List.setIfInBounds_toArray, List.set_cons_zero, List.set_cons_succ]
          refine wpAnyH_take (i := 11) (oi := ⟨some 67, _, _, _, _, _⟩) (v := ?_) rfl (by kernel_rfl) (by kernel_rfl) (by kernel_rfl) (fun _ _ _ h => h) (Or.inl ⟨by rfl, ?_⟩) (by assumption) ?_
          rotate_left 1
          · (intro w hSw; (try dsimp only at hSw); go_simp; all_goals with_reducible rfl)
          try simp only [Act.put, List.setIfInBounds_toArray, List.set_cons_zero, List.set_cons_succ]
          refine wpAnyH_ready (rs := [12]) (by kernel_rfl) (by simp) ?_
          refine AllReadyH.cons (o := ⟨some 68, _, _, _, _, _⟩) rfl (fun K hK => ?_) AllReadyH.nil
          go_simp
          (go_at_call 13; (with_reducible refine (HSH.out _ (by assumption)).mono ?_); rintro e wa ⟨rfl, hfa⟩; have S2 : Frm [] w8 wa := Frm.trans (by assumption) hfa (by simp) (by simp); clear hfa)
          go_wp2_with fail
          refine hK.out _ _ (by assumption) (fun hHeld => ?_)
          clear hK K
          try simp only [Act.put, List.setIfInBounds_toArray, List.set_cons_zero, List.set_cons_succ]
          refine wpAnyH_take (i := 13) (oi := ⟨some 69, _, _, _, _, _⟩) (v := ?_) rfl (by kernel_rfl) (by kernel_rfl) (by kernel_rfl) (fun _ _ _ h => h) (Or.inl ⟨by rfl, ?_⟩) (by assumption) ?_
          rotate_left 1
          · (intro w hSw; (try dsimp only at hSw); go_simp; all_goals with_reducible rfl)
          try simp only [Act.put, List.setIfInBounds_toArray, List.set_cons_zero, List.set_cons_succ]
          refine wpAnyH_take (i := 14) (oi := ⟨some 70, _, _, _, _, _⟩) (v := ?_) rfl (by kernel_rfl) (by kernel_rfl) (by kernel_rfl) (fun _ _ _ h => h) (Or.inl ⟨by rfl, ?_⟩) (by assumption) ?_
          rotate_left 1
          · (intro w hSw; (try dsimp only at hSw); go_simp; all_goals with_reducible rfl)
          try simp only [Act.put, List.setIfInBounds_toArray, List.set_cons_zero, List.set_cons_succ]
          refine wpAnyH_take (i := 15) (oi := ⟨some 71, _, _, _, _, _⟩) (v := ?_) rfl (by kernel_rfl) (by kernel_rfl) (by kernel_rfl) (fun _ _ _ h => h) (Or.inl ⟨by rfl, ?_⟩) (by assumption) ?_
          rotate_left 1
          · (intro w hSw; (try dsimp only at hSw); go_simp; all_goals with_reducible rfl)
          try simp only [Act.put, List.setIfInBounds_toArray, List.set_cons_zero, List.set_cons_succ]
          refine wpAnyH_take (i := 16) (oi := ⟨some 72, _, _, _, _, _⟩) (v := ?_) rfl (by kernel_rfl) (by kernel_rfl) (by kernel_rfl) (fun _ _ _ h => h) (Or.inl ⟨by rfl, ?_⟩) (by assumption) ?_
          rotate_left 1
          · (intro w hSw; (try dsimp only at hSw); go_simp; all_goals with_reducible rfl)
          try simp only [Act.put, List.setIfInBounds_toArray, List.set_cons_zero, List.set_cons_succ]
          refine wpAnyH_take (i := 19) (oi := ⟨some 75, _, _, _, _, _⟩) (v := ?_) rfl (by kernel_rfl) (by kernel_rfl) (by kernel_rfl) (fun _ _ _ h => h) (Or.inl ⟨by rfl, ?_⟩) (by assumption) ?_
          rotate_left 1
          · (intro w hSw; (try dsimp only at hSw); go_simp; all_goals with_reducible rfl)
          try simp only [Act.put, List.setIfInBounds_toArray, List.set_cons_zero, List.set_cons_succ]
          refine wpAnyH_take (i := 20) (oi := ⟨some 76, _, _, _, _, _⟩) (v := ?_) rfl (by kernel_rfl) (by kernel_rfl) (by kernel_rfl) (fun _ _ _ h => h) (Or.inl ⟨by rfl, ?_⟩) (by assumption) ?_
          rotate_left 1
          · (intro w hSw; (try dsimp only at hSw); go_simp; all_goals with_reducible rfl)
          try simp only [Act.put, List.setIfInBounds_toArray, List.set_cons_zero, List.set_cons_succ]
          refine wpAnyH_take (i := 21) (oi := ⟨some 77, _, _, _, _, _⟩) (v := ?_) rfl (by kernel_rfl) (by kernel_rfl) (by kernel_rfl) (fun _ _ _ h => h) (Or.inl ⟨by rfl, ?_⟩) (by assumption) ?_
          rotate_left 1
          · (intro w hSw; (try dsimp only at hSw); go_simp; all_goals with_reducible rfl)
          try simp only [Act.put, List.setIfInBounds_toArray, List.set_cons_zero, List.set_cons_succ]
          refine wpAnyH_take (i := 22) (oi := ⟨some 78, _, _, _, _, _⟩) (v := ?_) rfl (by kernel_rfl) (by kernel_rfl) (by kernel_rfl) (fun _ _ _ h => h) (Or.inl ⟨by rfl, ?_⟩) (by assumption) ?_
          rotate_left 1
          · (intro w hSw; (try dsimp only at hSw); go_simp; all_goals with_reducible rfl)
          try simp only [Act.put, List.setIfInBounds_toArray, List.set_cons_zero, List.set_cons_succ]
          refine wpAnyH_take (i := 23) (oi := ⟨some 79, _, _, _, _, _⟩) (v := ?_) rfl (by kernel_rfl) (by kernel_rfl) (by kernel_rfl) (fun _ _ _ h => h) (Or.inl ⟨by rfl, ?_⟩) (by assumption) ?_
          rotate_left 1
          · (intro w hSw; (try dsimp only at hSw); go_simp; all_goals with_reducible rfl)
          try simp only [Act.put, List.setIfInBounds_toArray, List.set_cons_zero, List.set_cons_succ]
          refine wpAnyH_take (i := 24) (oi := ⟨some 80, _, _, _, _, _⟩) (v := ?_) rfl (by kernel_rfl) (by kernel_rfl) (by kernel_rfl) (fun _ _ _ h => h) (Or.inl ⟨by rfl, ?_⟩) (by assumption) ?_
          rotate_left 1
          · (intro w hSw; (try dsimp only at hSw); go_simp; all_goals with_reducible rfl)
          try simp only [Act.put, List.setIfInBounds_toArray, List.set_cons_zero, List.set_cons_succ]
          refine wpAnyH_take (i := 25) (oi := ⟨some 81, _, _, _, _, _⟩) (v := ?_) rfl (by kernel_rfl) (by kernel_rfl) (by kernel_rfl) (fun _ _ _ h => h) (Or.inl ⟨by rfl, ?_⟩) (by assumption) ?_
          rotate_left 1
          · (intro w hSw; (try dsimp only at hSw); go_simp; all_goals with_reducible rfl)
          try simp only [Act.put, List.setIfInBounds_toArray, List.set_cons_zero, List.set_cons_succ]
          refine wpAnyH_take (i := 26) (oi := ⟨some 82, _, _, _, _, _⟩) (v := ?_) rfl (by kernel_rfl) (by kernel_rfl) (by kernel_rfl) (fun _ _ _ h => h) (Or.inl ⟨by rfl, ?_⟩) (by assumption) ?_
          rotate_left 1
          · (intro w hSw; (try dsimp only at hSw); go_simp; all_goals with_reducible rfl)
          try simp only [Act.put, List.setIfInBounds_toArray, List.set_cons_zero, List.set_cons_succ]
          refine wpAnyH_ready (rs := [17]) (by kernel_rfl) (by simp) ?_
          refine AllReadyH.cons (o := ⟨some 73, _, _, _, _, _⟩) rfl (fun K hK => ?_) AllReadyH.nil
          go_simp
          (go_at_call 14; (with_reducible refine (HBY.out _ (by assumption)).mono ?_); rintro e wd ⟨ab, cb2, rfl, hcv2, hfd⟩; have S3 : Frm [] w8 wd := Frm.trans (by assumption) hfd (by simp) (by simp); clear hfd)
          go_wp2_with fail
          refine hK.out _ _ (by assumption) (fun hHeld => ?_)
          clear hK K
          try simp only [Act.put, List.setIfInBounds_toArray, List.set_cons_zero, List.set_cons_succ]
          refine wpAnyH_ready (rs := [18]) (by kernel_rfl) (by simp) ?_
          refine AllReadyH.cons (o := ⟨some 74, _, _, _, _, _⟩) rfl (fun K hK => ?_) AllReadyH.nil
          go_simp
          refine hK.out _ _ (by assumption) (fun hHeld => ?_)
          clear hK K
          try simp only [Act.put, List.setIfInBounds_toArray, List.set_cons_zero, List.set_cons_succ]
          refine wpAnyH_take (i := 27) (oi := ⟨some 83, _, _, _, _, _⟩) (v := ?_) rfl (by kernel_rfl) (by kernel_rfl) (by kernel_rfl) (fun _ _ _ h => h) (Or.inl ⟨by rfl, ?_⟩) (by assumption) ?_
          rotate_left 1
          · (intro w hSw; (try dsimp only at hSw); go_simp; all_goals with_reducible rfl)
          try simp only [Act.put, List.setIfInBounds_toArray, List.set_cons_zero, List.set_cons_succ]
          refine wpAnyH_take (i := 28) (oi := ⟨some 84, _, _, _, _, _⟩) (v := ?_) rfl (by kernel_rfl) (by kernel_rfl) (by kernel_rfl) (fun _ _ _ h => h) (Or.inl ⟨by rfl, ?_⟩) (by assumption) ?_
          rotate_left 1
          · (intro w hSw; (try dsimp only at hSw); go_simp; all_goals with_reducible rfl)
          try simp only [Act.put, List.setIfInBounds_toArray, List.set_cons_zero, List.set_cons_succ]
          refine wpAnyH_done (by kernel_rfl) ?_ _
          clear x4 x2 xg cvd heq
          have g1 : wd.cell? ⟨g, 1, none⟩ = some (.string key) := (S3.whole HW8.out (by simp)).cell 1
          obtain ⟨D, hD⟩ : ∃ D : Nd, D = getN S'.nodes key := ⟨_, rfl⟩
          obtain ⟨db, hdb⟩ : ∃ db, db = isN S'.nodes key := ⟨_, rfl⟩
          have HGT := Lib.hid (fun (z : World) (hz : Frm [] w8 z) => tm_get key (HT8.out.same hz) HM8.out)
          have HRG := Lib.hid (fun (z : World) (Z' : List Nat) (hZ : ∀ x ∈ Z', w8.heap.size ≤ x ∧ x < z.heap.size) (hz : Frm [] w8 z) => tm_rget key (HT8.out.here (Z' := Z') hz (fun x hx => .inr (hZ x hx).1) (fun x hx => (hZ x hx).2)))
          rw [← hD, ← hdb] at HGT HRG
          clear hD hdb
          obtain ⟨dk, dv, dver, down⟩ := D
          obtain ⟨vn, hvn⟩ : ∃ vn, vn = dv.length := ⟨_, rfl⟩
          simp only at HRG
          unfold GetPEnd at HGT
          simp only at HGT
          rw [← hvn] at HRG HGT
          have HVN := Lib.hid hvn
          clear hvn
          go_wp2_with fail
          (with_reducible refine (HGT.out _ S3).mono ?_)
          rintro e wg ⟨ga, gc, rfl, hgb, _, _, hfg⟩
          obtain ⟨we, hwe⟩ : ∃ we, we = wg.alloc (.cells #[.string dk, .slice ga vn gc, .int .u64 (dver : Nat), .int .u64 (down : Nat)] 59) := ⟨_, rfl⟩
          obtain ⟨g4, hg4⟩ : ∃ g4, g4 = wg.heap.size := ⟨_, rfl⟩
          have hWe := Whole.made wg 59 #[.string dk, .slice ga vn gc, .int .u64 (dver : Nat), .int .u64 (down : Nat)]
          rw [← hwe, ← hg4] at hWe
          have S4 : Frm [] w8 wg := S3.trans hfg (by simp) (by simp)
          have S5 : Frm [] w8 we := by rw [hwe]; exact S4.alloc _
          have HBE : Hid (∀ z, Frm [] we z → Bytes z ga dv) := Lib.hid fun z hz => hz.bytes ((show Frm [] wg we by rw [hwe]; exact (Frm.refl _ _).alloc _).bytes hgb (by simp)) (by simp)
          have HWE := Lib.hid hwe
          have HG4 := Lib.hid hg4
          have HWEW := Lib.hid hWe
          clear hfg hgb hwe hg4 hWe g1
          go_wp2
          rw [← HWE.out, ← HG4.out]
          have xg : ∀ y, Frm [] w8 y → y.cell? ⟨g, 1, none⟩ = some (.string key) := fun y hy => (hy.whole HW8.out (by simp)).cell 1
          refine wp_region_held_drew (S := fun w' => Frm [] w8 w') (by kernel_rfl) (Frm.drew S5) (fun hHeld => ?_)
          refine wpAnyH_take (i := 0) (oi := ⟨some 93, _, _, _, _, _⟩) (v := ?_) rfl (by kernel_rfl) (by kernel_rfl) (by kernel_rfl) (fun _ _ _ h => h) (Or.inl ⟨by rfl, ?_⟩) (by assumption) ?_
          rotate_left 1
          · (intro w hSw; (try dsimp only at hSw); go_simp; all_goals with_reducible rfl)
          try simp only [Act.put, List.setIfInBounds_toArray, List.set_cons_zero, List.set_cons_succ]
          refine wpAnyH_take (i := 1) (oi := ⟨some 94, _, _, _, _, _⟩) (v := ?_) rfl (by kernel_rfl) (by kernel_rfl) (by kernel_rfl) (fun _ _ _ h => h) (Or.inl ⟨by rfl, ?_⟩) (by assumption) ?_
          rotate_left 1
          · (intro w hSw; (try dsimp only at hSw); go_simp; all_goals with_reducible rfl)
          try simp only [Act.put, List.setIfInBounds_toArray, List.set_cons_zero, List.set_cons_succ]
          refine wpAnyH_take (i := 2) (oi := ⟨some 95, _, _, _, _, _⟩) (v := ?_) rfl (by kernel_rfl) (by kernel_rfl) (by kernel_rfl) (fun _ _ _ h => h) (Or.inl ⟨by rfl, ?_⟩) (by assumption) ?_
          rotate_left 1
          · (intro w hSw; (try dsimp only at hSw); go_simp; all_goals with_reducible rfl)
          try simp only [Act.put, List.setIfInBounds_toArray, List.set_cons_zero, List.set_cons_succ]
          refine wpAnyH_take (i := 3) (oi := ⟨some 96, _, _, _, _, _⟩) (v := ?_) rfl (by kernel_rfl) (by kernel_rfl) (by kernel_rfl) (fun _ _ _ h => h) (Or.inl ⟨by rfl, ?_⟩) (by assumption) ?_
          rotate_left 1
          · (intro w hSw; (try dsimp only at hSw); go_simp; all_goals with_reducible rfl)
          try simp only [Act.put, List.setIfInBounds_toArray, List.set_cons_zero, List.set_cons_succ]
          refine wpAnyH_take (i := 4) (oi := ⟨some 97, _, _, _, _, _⟩) (v := ?_) rfl (by kernel_rfl) (by kernel_rfl) (by kernel_rfl) (fun _ _ _ h => h) (Or.inl ⟨by rfl, ?_⟩) (by assumption) ?_
          rotate_left 1
          · (intro w hSw; (try dsimp only at hSw); go_simp; all_goals with_reducible rfl)
          try simp only [Act.put, List.setIfInBounds_toArray, List.set_cons_zero, List.set_cons_succ]
          refine wpAnyH_take (i := 5) (oi := ⟨some 98, _, _, _, _, _⟩) (v := ?_) rfl (by kernel_rfl) (by kernel_rfl) (by kernel_rfl) (fun _ _ _ h => h) (Or.inl ⟨by rfl, ?_⟩) (by assumption) ?_
          rotate_left 1
          · (intro w hSw; (try dsimp only at hSw); go_simp; all_goals with_reducible rfl)
          try simp only [Act.put, List.setIfInBounds_toArray, List.set_cons_zero, List.set_cons_succ]
          refine wpAnyH_ready (rs := [6, 10]) (by kernel_rfl) (by simp) ?_
          refine AllReadyH.cons (o := ⟨some 99, _, _, _, _, _⟩) rfl (fun K hK => ?_) (AllReadyH.cons (o := ⟨some 16, _, _, _, _, _⟩) rfl (fun K hK => ?_) AllReadyH.nil)
          · go_simp
            (go_at_call 16; (with_reducible refine (HRG.out _ [] (by simp) (by assumption)).mono ?_); rintro e wh ⟨ra, rc, rfl, hrb, hra, hfh⟩; have S6 : Frm [] w8 wh := Frm.trans (by assumption) hfh (by simp) (by simp); have hweh : Frm [] we wh := (Frm.refl [] we).drew.trans hfh (by simp) (by simp); clear hfh)
            go_wp2_with fail
            refine hK.out _ _ (by assumption) (fun hHeld => ?_)
            clear hK K
            try simp only [Act.put, List.setIfInBounds_toArray, List.set_cons_zero, List.set_cons_succ]
            refine wpAnyH_take (i := 7) (oi := ⟨some 92, _, _, _, _, _⟩) (v := ?_) rfl (by kernel_rfl) (by kernel_rfl) (by kernel_rfl) (fun _ _ _ h => h) (Or.inl ⟨by rfl, ?_⟩) (by assumption) ?_
            rotate_left 1
            · (intro w hSw; (try dsimp only at hSw); go_simp; all_goals with_reducible rfl)
            try simp only [Act.put, List.setIfInBounds_toArray, List.set_cons_zero, List.set_cons_succ]
            refine wpAnyH_take (i := 8) (oi := ⟨some 100, _, _, _, _, _⟩) (v := ?_) rfl (by kernel_rfl) (by kernel_rfl) (by kernel_rfl) (fun _ _ _ h => h) (Or.inl ⟨by rfl, ?_⟩) (by assumption) ?_
            rotate_left 1
            · (intro w hSw; (try dsimp only at hSw); go_simp; all_goals with_reducible rfl)
            try simp only [Act.put, List.setIfInBounds_toArray, List.set_cons_zero, List.set_cons_succ]
            refine wpAnyH_take (i := 9) (oi := ⟨some 101, _, _, _, _, _⟩) (v := ?_) rfl (by kernel_rfl) (by kernel_rfl) (by kernel_rfl) (fun _ _ _ h => h) (Or.inl ⟨by rfl, ?_⟩) (by assumption) ?_
            rotate_left 1
            · (intro w hSw; (try dsimp only at hSw); go_simp; all_goals with_reducible rfl)
            try simp only [Act.put, List.setIfInBounds_toArray, List.set_cons_zero, List.set_cons_succ]
            refine wpAnyH_ready (rs := [10]) (by kernel_rfl) (by simp) ?_
            refine AllReadyH.cons (o := ⟨some 16, _, _, _, _, _⟩) rfl (fun K hK => ?_) AllReadyH.nil
            go_simp
            have S7 : Frm [] w8 (wh.alloc (.cells #[.string ⟨#[]⟩, .slice none 0 0, .int .u64 0, .int .u64 0] 59)) := S6.alloc _
            refine hK.out _ _ (by assumption) (fun hHeld => ?_)
            clear hK K
            try simp only [Act.put, List.setIfInBounds_toArray, List.set_cons_zero, List.set_cons_succ]
            refine wpAnyH_ready (rs := [11]) (by kernel_rfl) (by simp) ?_
            refine AllReadyH.cons (o := ⟨none, _, _, _, _, _⟩) rfl (fun K hK => ?_) AllReadyH.nil
            go_simp
            obtain ⟨w9, hw9⟩ : ∃ w9, w9 = wh.alloc (.cells #[.string dk, .slice ra vn rc, .int .u64 (dver : Nat), .int .u64 (down : Nat)] 59) := ⟨_, rfl⟩
            obtain ⟨g9, hg9⟩ : ∃ g9, g9 = wh.heap.size := ⟨_, rfl⟩
            have hW9 := Whole.made wh 59 #[.string dk, .slice ra vn rc, .int .u64 (dver : Nat), .int .u64 (down : Nat)]
            rw [← hw9, ← hg9] at hW9
            have hf9 : Frm [] wh w9 := by rw [hw9]; exact (Frm.refl _ _).alloc _
            have S8 : Frm [] w8 w9 := S6.trans hf9 (by simp) (by simp)
            have hwe9 : Frm [] we w9 := hweh.trans hf9 (by simp) (by simp)
            have hB9 : Bytes w9 ra dv := hf9.bytes hrb (by simp)
            rw [← hw9, ← hg9]
            clear hw9 hg9
            refine hK.out _ _ (by assumption) (fun hHeld => ?_)
            clear hK K
            try simp only [Act.put, List.setIfInBounds_toArray, List.set_cons_zero, List.set_cons_succ]
            refine wpAnyH_take (i := 12) (oi := ⟨some 17, _, _, _, _, _⟩) (v := ?_) rfl (by kernel_rfl) (by kernel_rfl) (by kernel_rfl) (fun _ _ _ h => h) (Or.inl ⟨by rfl, ?_⟩) (by assumption) ?_
            rotate_left 1
            · (intro w hSw; (try dsimp only at hSw); go_simp; all_goals with_reducible rfl)
            try simp only [Act.put, List.setIfInBounds_toArray, List.set_cons_zero, List.set_cons_succ]
            refine wpAnyH_done (by kernel_rfl) ?_ _
            have HB1 : Hid (Bytes w9 ga dv) := Lib.hid (HBE.out w9 hwe9)
            have hWE9 := hwe9.whole HWEW.out (by simp)
            have HSN := Lib.hid (sameNode_true dk ga vn gc ra rc dver down dv w9 HB1.out hB9 HVN.out)
            have e0 := hWE9.cell 0
            have e1 := hWE9.cell 1
            have e2 := hWE9.cell 2
            have e3 := hWE9.cell 3
            have f0 := hW9.cell 0
            have f1' := hW9.cell 1
            have f2 := hW9.cell 2
            have f3 := hW9.cell 3
            simp at e0 e1 e2 e3 f0 f1' f2 f3
            have hdb : (db != db) = false := by simp
            have HS8 := Lib.hid S8
            clear hWE9 hW9 hB9 hrb hra hf9 hwe9 hweh xg S0 S2 S3 S4 S5 S8
            go_wp2_with fail
            (with_reducible refine HSN.out.mono ?_)
            rintro e wi ⟨rfl, hfi⟩
            have HS9 := Lib.hid (HS8.out.trans hfi (U := []) (by simp) (by simp))
            clear hfi e0 e1 e2 e3 f0 f1' f2 f3 hdb
            have HWI := Lib.hid (show Frm [] w wi from HT8.out.frm.trans HS9.out (by simp) (by simp))
            obtain ⟨x1, y1, hx1⟩ : ∃ x1 y1, (¬ j < n1 ∨ (j < n1 ∧ a1 = some ⟨x1, y1, none⟩ ∧ wi.cell? ⟨x1, y1 + j, none⟩ = some (.bool false))) ∨ (j < n1 ∧ a1 = some ⟨x1, y1, none⟩ ∧ wi.cell? ⟨x1, y1 + j, none⟩ = some (.bool true)) := by
              by_cases hl : j < n1
              · obtain ⟨b1, o1, h1, h2⟩ := (H1.out.keep HWI.out) j (by have := E1.out; omega)
                cases hv : bs.getD j false
                · rw [hv] at h2; exact ⟨b1, o1, .inl (.inr ⟨hl, h1, h2⟩)⟩
                · rw [hv] at h2; exact ⟨b1, o1, .inr ⟨hl, h1, h2⟩⟩
              · exact ⟨0, 0, .inl (.inl hl)⟩
            have HREL0 : Hid (∀ z, Frm [] wi z → MpRel w dp q m n room (.int .i64 ((j + 1 : Nat) : Nat)) (.pointer (some ⟨k, 0, none⟩)) z) := Lib.hid fun z hz => ⟨j + 1, k, S', l', hlt, by omega, rfl, rfl, Lib.hid (HT8.out.here (Z' := []) (HS9.out.trans hz (by simp) (by simp)) (by simp) (by simp)), HM8, HV8, HRC8⟩
            rcases hx1 with (hl | ⟨hl, ha1, hc1⟩) | ⟨hl, ha1, hc1⟩
            · have hge : decide ((j : Int) < (n1 : Int)) = false := decide_eq_false (by omega)
              have hge2 : decide (j < n1) = false := decide_eq_false hl
              go_wp2
              go_roundw
              case rel => exact HREL0.out _ (Frm.refl _ _)
              case measure => simp [intOf]; omega
            · subst ha1
              have hge : decide ((j : Int) < (n1 : Int)) = true := decide_eq_true (by omega)
              have hge2 : decide (j < n1) = true := decide_eq_true hl
              go_wp2
              go_roundw
              case rel => exact HREL0.out _ (Frm.refl _ _)
              case measure => simp [intOf]; omega
            · subst ha1
              have hge : decide ((j : Int) < (n1 : Int)) = true := decide_eq_true (by omega)
              have hge2 : decide (j < n1) = true := decide_eq_true hl
              have HCR := Lib.hid (tm_crash (j : Int) (j : Int) (HT8.out.same HS9.out))
              go_wp2_with fail
              (with_reducible refine HCR.out.mono ?_)
              rintro e wj ⟨rfl, htd, T1, hf1, hT1, hz1⟩
              have HOP := Lib.hid (td_open htd HRC8.out)
              have HWJ := Lib.hid ((HS9.out.whole HW8.out (by simp)))
              have hWj := hf1.whole HWJ.out (hz1 g (by simp))
              have HWJ2 := Lib.hid hWj
              clear htd hf1 hT1 hz1 hc1 hWj
              go_wp2_with fail
              (with_reducible refine HOP.out.mono ?_)
              rintro e wk ⟨k2, rfl, htm, T2, hf2, hT2, hz2⟩
              have hWk := hf2.whole HWJ2.out (hz2 g (by simp))
              have HWK := Lib.hid hWk
              have HSH2 := Lib.hid (fun (z : World) (hz : Frm [] wk z) => tm_shows t.ses (htm.same hz) HM8.out)
              have HREL1 : Hid (∀ z, Frm [] wk z → MpRel w dp q m n room (.int .i64 ((j + 1 : Nat) : Nat)) (.pointer (some ⟨k2, 0, none⟩)) z) := Lib.hid fun z hz => ⟨j + 1, k2, S', l', hlt, by omega, rfl, rfl, Lib.hid (htm.here (Z' := []) hz (by simp) (by simp)), HM8, HV8, HRC8⟩
              have xg : ∀ y, Frm [] wk y → y.cell? ⟨g, 4, none⟩ = some (.int .u64 (t.ses : Nat)) := fun y hy => (hy.whole HWK.out (by simp)).cell 4
              clear htm hf2 hT2 hz2 hWk HCR HOP HREL0
              go_wp2
              refine wp_region_held_drew (S := fun w' => Frm [] wk w') (by kernel_rfl) (Frm.refl _ _).drew (fun hHeld => ?_)
              refine wpAnyH_take (i := 0) (oi := ⟨some 130, _, _, _, _, _⟩) (v := ?_) rfl (by kernel_rfl) (by kernel_rfl) (by kernel_rfl) (fun _ _ _ h => h) (Or.inl ⟨by rfl, ?_⟩) (by assumption) ?_
              rotate_left 1
              · (intro w hSw; (try dsimp only at hSw); go_simp; all_goals with_reducible rfl)
              try simp only [Act.put, List.setIfInBounds_toArray, List.set_cons_zero, List.set_cons_succ]
              refine wpAnyH_take (i := 1) (oi := ⟨some 131, _, _, _, _, _⟩) (v := ?_) rfl (by kernel_rfl) (by kernel_rfl) (by kernel_rfl) (fun _ _ _ h => h) (Or.inl ⟨by rfl, ?_⟩) (by assumption) ?_
              rotate_left 1
              · (intro w hSw; (try dsimp only at hSw); go_simp; all_goals with_reducible rfl)
              try simp only [Act.put, List.setIfInBounds_toArray, List.set_cons_zero, List.set_cons_succ]
              refine wpAnyH_take (i := 2) (oi := ⟨some 132, _, _, _, _, _⟩) (v := ?_) rfl (by kernel_rfl) (by kernel_rfl) (by kernel_rfl) (fun _ _ _ h => h) (Or.inl ⟨by rfl, ?_⟩) (by assumption) ?_
              rotate_left 1
              · (intro w hSw; (try dsimp only at hSw); go_simp; all_goals with_reducible rfl)
              try simp only [Act.put, List.setIfInBounds_toArray, List.set_cons_zero, List.set_cons_succ]
              refine wpAnyH_take (i := 3) (oi := ⟨some 133, _, _, _, _, _⟩) (v := ?_) rfl (by kernel_rfl) (by kernel_rfl) (by kernel_rfl) (fun _ _ _ h => h) (Or.inl ⟨by rfl, ?_⟩) (by assumption) ?_
              rotate_left 1
              · (intro w hSw; (try dsimp only at hSw); go_simp; all_goals with_reducible rfl)
              try simp only [Act.put, List.setIfInBounds_toArray, List.set_cons_zero, List.set_cons_succ]
              refine wpAnyH_take (i := 4) (oi := ⟨some 134, _, _, _, _, _⟩) (v := ?_) rfl (by kernel_rfl) (by kernel_rfl) (by kernel_rfl) (fun _ _ _ h => h) (Or.inl ⟨by rfl, ?_⟩) (by assumption) ?_
              rotate_left 1
              · (intro w hSw; (try dsimp only at hSw); go_simp; all_goals with_reducible rfl)
              try simp only [Act.put, List.setIfInBounds_toArray, List.set_cons_zero, List.set_cons_succ]
              refine wpAnyH_take (i := 5) (oi := ⟨some 135, _, _, _, _, _⟩) (v := ?_) rfl (by kernel_rfl) (by kernel_rfl) (by kernel_rfl) (fun _ _ _ h => h) (Or.inl ⟨by rfl, ?_⟩) (by assumption) ?_
              rotate_left 1
              · (intro w hSw; (try dsimp only at hSw); go_simp; all_goals with_reducible rfl)
              try simp only [Act.put, List.setIfInBounds_toArray, List.set_cons_zero, List.set_cons_succ]
              refine wpAnyH_take (i := 6) (oi := ⟨some 136, _, _, _, _, _⟩) (v := ?_) rfl (by kernel_rfl) (by kernel_rfl) (by kernel_rfl) (fun _ _ _ h => h) (Or.inl ⟨by rfl, ?_⟩) (by assumption) ?_
              rotate_left 1
              · (intro w hSw; (try dsimp only at hSw); go_simp; all_goals with_reducible rfl)
              try simp only [Act.put, List.setIfInBounds_toArray, List.set_cons_zero, List.set_cons_succ]
              refine wpAnyH_take (i := 7) (oi := ⟨some 137, _, _, _, _, _⟩) (v := ?_) rfl (by kernel_rfl) (by kernel_rfl) (by kernel_rfl) (fun _ _ _ h => h) (Or.inl ⟨by rfl, ?_⟩) (by assumption) ?_
              rotate_left 1
              · (intro w hSw; (try dsimp only at hSw); go_simp; all_goals with_reducible rfl)
              try simp only [Act.put, List.setIfInBounds_toArray, List.set_cons_zero, List.set_cons_succ]
              refine wpAnyH_take (i := 8) (oi := ⟨some 138, _, _, _, _, _⟩) (v := ?_) rfl (by kernel_rfl) (by kernel_rfl) (by kernel_rfl) (fun _ _ _ h => h) (Or.inl ⟨by rfl, ?_⟩) (by assumption) ?_
              rotate_left 1
              · (intro w hSw; (try dsimp only at hSw); go_simp; all_goals with_reducible rfl)
              try simp only [Act.put, List.setIfInBounds_toArray, List.set_cons_zero, List.set_cons_succ]
              refine wpAnyH_ready (rs := [9]) (by kernel_rfl) (by simp) ?_
              refine AllReadyH.cons (o := ⟨some 139, _, _, _, _, _⟩) rfl (fun K hK => ?_) AllReadyH.nil
              go_simp
              (go_at_call 13; (with_reducible refine (HSH2.out _ (by assumption)).mono ?_); rintro e wm ⟨rfl, hfm⟩; have Sm : Frm [] wk wm := Frm.trans (by assumption) hfm (by simp) (by simp); clear hfm)
              go_wp2_with fail
              refine hK.out _ _ (by assumption) (fun hHeld => ?_)
              clear hK K
              try simp only [Act.put, List.setIfInBounds_toArray, List.set_cons_zero, List.set_cons_succ]
              refine wpAnyH_take (i := 10) (oi := ⟨some 140, _, _, _, _, _⟩) (v := ?_) rfl (by kernel_rfl) (by kernel_rfl) (by kernel_rfl) (fun _ _ _ h => h) (Or.inl ⟨by rfl, ?_⟩) (by assumption) ?_
              rotate_left 1
              · (intro w hSw; (try dsimp only at hSw); go_simp; all_goals with_reducible rfl)
              try simp only [Act.put, List.setIfInBounds_toArray, List.set_cons_zero, List.set_cons_succ]
              refine wpAnyH_take (i := 11) (oi := ⟨some 141, _, _, _, _, _⟩) (v := ?_) rfl (by kernel_rfl) (by kernel_rfl) (by kernel_rfl) (fun _ _ _ h => h) (Or.inl ⟨by rfl, ?_⟩) (by assumption) ?_
              rotate_left 1
              · (intro w hSw; (try dsimp only at hSw); go_simp; all_goals with_reducible rfl)
              try simp only [Act.put, List.setIfInBounds_toArray, List.set_cons_zero, List.set_cons_succ]
              refine wpAnyH_done (by kernel_rfl) ?_ _
              clear xg
              go_wp2
              go_roundw
              case rel => exact HREL1.out _ (by assumption)
              case measure => simp [intOf]; omega
          · go_simp
            obtain ⟨wx, hwx⟩ : ∃ wx, wx = (we.alloc (.cells #[.string ⟨#[]⟩, .slice none 0 0, .int .u64 0, .int .u64 0] 59)).drew := ⟨_, rfl⟩
            obtain ⟨g9, hg9⟩ : ∃ g9, g9 = we.heap.size := ⟨_, rfl⟩
            have hWx : Whole wx g9 59 #[.string ⟨#[]⟩, .slice none 0 0, .int .u64 0, .int .u64 0] := by rw [hwx, hg9]; exact (Whole.made we 59 #[.string ⟨#[]⟩, .slice none 0 0, .int .u64 0, .int .u64 0]).drew
            have hfx : Frm [] we wx := by rw [hwx]; exact ((Frm.refl _ _).alloc _).drew
            have S7 : Frm [] w8 wx := S5.trans hfx (by simp) (by simp)
            rw [← hwx, ← hg9]
            have HG9 := Lib.hid hg9
            have hg8 : w8.heap.size ≤ g9 := by have := S5.size; omega
            clear hwx hg9
            refine hK.out _ _ (by assumption) (fun hHeld => ?_)
            clear hK K
            try simp only [Act.put, List.setIfInBounds_toArray, List.set_cons_zero, List.set_cons_succ]
            refine wpAnyH_ready (rs := [6]) (by kernel_rfl) (by simp) ?_
            refine AllReadyH.cons (o := ⟨some 99, _, _, _, _, _⟩) rfl (fun K hK => ?_) AllReadyH.nil
            go_simp
            (go_at_call 16; (with_reducible refine (HRG.out _ [g9] (fun x hx => by simp at hx; subst hx; exact ⟨hg8, hWx.lt⟩) (by assumption)).mono ?_); rintro e wh ⟨ra, rc, rfl, hrb, hra, hfh⟩; have S6 : Frm [] w8 wh := Frm.trans (by assumption) hfh (by simp) (by simp); have hweh : Frm [] we wh := hfx.trans hfh (by simp) (by simp); have hWh := hfh.whole hWx (by simp); clear hfh hfx hWx)
            go_wp2_with fail
            refine hK.out _ _ (by assumption) (fun hHeld => ?_)
            clear hK K
            try simp only [Act.put, List.setIfInBounds_toArray, List.set_cons_zero, List.set_cons_succ]
            refine wpAnyH_take (i := 7) (oi := ⟨some 92, _, _, _, _, _⟩) (v := ?_) rfl (by kernel_rfl) (by kernel_rfl) (by kernel_rfl) (fun _ _ _ h => h) (Or.inl ⟨by rfl, ?_⟩) (by assumption) ?_
            rotate_left 1
            · (intro w hSw; (try dsimp only at hSw); go_simp; all_goals with_reducible rfl)
            try simp only [Act.put, List.setIfInBounds_toArray, List.set_cons_zero, List.set_cons_succ]
            refine wpAnyH_take (i := 8) (oi := ⟨some 100, _, _, _, _, _⟩) (v := ?_) rfl (by kernel_rfl) (by kernel_rfl) (by kernel_rfl) (fun _ _ _ h => h) (Or.inl ⟨by rfl, ?_⟩) (by assumption) ?_
            rotate_left 1
            · (intro w hSw; (try dsimp only at hSw); go_simp; all_goals with_reducible rfl)
            try simp only [Act.put, List.setIfInBounds_toArray, List.set_cons_zero, List.set_cons_succ]
            refine wpAnyH_take (i := 9) (oi := ⟨some 101, _, _, _, _, _⟩) (v := ?_) rfl (by kernel_rfl) (by kernel_rfl) (by kernel_rfl) (fun _ _ _ h => h) (Or.inl ⟨by rfl, ?_⟩) (by assumption) ?_
            rotate_left 1
            · (intro w hSw; (try dsimp only at hSw); go_simp; all_goals with_reducible rfl)
            try simp only [Act.put, List.setIfInBounds_toArray, List.set_cons_zero, List.set_cons_succ]
            have y0 := hWh.cell 0
            have y1 := hWh.cell 1
            have y2 := hWh.cell 2
            have y3 := hWh.cell 3
            have z0 := hWh.free 0
            have z1 := hWh.free 1
            have z2 := hWh.free 2
            have z3 := hWh.free 3
            simp at y0 y1 y2 y3
            refine wpAnyH_ready (rs := [11]) (by kernel_rfl) (by simp) ?_
            refine AllReadyH.cons (o := ⟨none, _, _, _, _, _⟩) rfl (fun K hK => ?_) AllReadyH.nil
            go_simp
            obtain ⟨w9, hw9⟩ : ∃ w9, w9 = (((wh.setCell ⟨g9, 0, none⟩ (.string dk)).setCell ⟨g9, 1, none⟩ (.slice ra vn rc)).setCell ⟨g9, 2, none⟩ (.int .u64 (dver : Nat))).setCell ⟨g9, 3, none⟩ (.int .u64 (down : Nat)) := ⟨_, rfl⟩
            have hW9 : Whole w9 g9 59 #[.string dk, .slice ra vn rc, .int .u64 (dver : Nat), .int .u64 (down : Nat)] := by
              have := (((hWh.put 0 (.string dk)).put 1 (.slice ra vn rc)).put 2 (.int .u64 (dver : Nat))).put 3 (.int .u64 (down : Nat))
              rw [hw9]; simpa using this
            have hg0 : we.heap.size ≤ g9 := by have := HG9.out; omega
            have hwe9 : Frm [] we w9 := by
              rw [hw9]
              exact (((hweh.setCell (.inr hg0) _).setCell (.inr hg0) _).setCell (.inr hg0) _).setCell (.inr hg0) _
            have hf9 : Frm [g9] wh w9 := by
              rw [hw9]
              exact ((((Frm.refl _ _).setCell (.inl (by simp)) _).setCell (.inl (by simp)) _).setCell (.inl (by simp)) _).setCell (.inl (by simp)) _
            have S8 : Frm [] w8 w9 := S5.trans hwe9 (by simp) (by simp)
            have hB9 : Bytes w9 ra dv := hf9.bytes' hrb (fun hne x hx hm => hra hne x hx hm)
            rw [← hw9]
            clear hw9 y0 y1 y2 y3 z0 z1 z2 z3 hg0
            refine hK.out _ _ (by assumption) (fun hHeld => ?_)
            clear hK K
            try simp only [Act.put, List.setIfInBounds_toArray, List.set_cons_zero, List.set_cons_succ]
            refine wpAnyH_take (i := 12) (oi := ⟨some 17, _, _, _, _, _⟩) (v := ?_) rfl (by kernel_rfl) (by kernel_rfl) (by kernel_rfl) (fun _ _ _ h => h) (Or.inl ⟨by rfl, ?_⟩) (by assumption) ?_
            rotate_left 1
            · (intro w hSw; (try dsimp only at hSw); go_simp; all_goals with_reducible rfl)
            try simp only [Act.put, List.setIfInBounds_toArray, List.set_cons_zero, List.set_cons_succ]
            refine wpAnyH_done (by kernel_rfl) ?_ _
            have HB1 : Hid (Bytes w9 ga dv) := Lib.hid (HBE.out w9 hwe9)
            have hWE9 := hwe9.whole HWEW.out (by simp)
            have HSN := Lib.hid (sameNode_true dk ga vn gc ra rc dver down dv w9 HB1.out hB9 HVN.out)
            have e0 := hWE9.cell 0
            have e1 := hWE9.cell 1
            have e2 := hWE9.cell 2
            have e3 := hWE9.cell 3
            have f0 := hW9.cell 0
            have f1' := hW9.cell 1
            have f2 := hW9.cell 2
            have f3 := hW9.cell 3
            simp at e0 e1 e2 e3 f0 f1' f2 f3
            have hdb : (db != db) = false := by simp
            have HS8 := Lib.hid S8
            clear hWE9 hW9 hB9 hrb hra hf9 hwe9 hweh xg S0 S2 S3 S4 S5 S8
            go_wp2_with fail
            (with_reducible refine HSN.out.mono ?_)
            rintro e wi ⟨rfl, hfi⟩
            have HS9 := Lib.hid (HS8.out.trans hfi (U := []) (by simp) (by simp))
            clear hfi e0 e1 e2 e3 f0 f1' f2 f3 hdb
            have HWI := Lib.hid (show Frm [] w wi from HT8.out.frm.trans HS9.out (by simp) (by simp))
            obtain ⟨x1, y1, hx1⟩ : ∃ x1 y1, (¬ j < n1 ∨ (j < n1 ∧ a1 = some ⟨x1, y1, none⟩ ∧ wi.cell? ⟨x1, y1 + j, none⟩ = some (.bool false))) ∨ (j < n1 ∧ a1 = some ⟨x1, y1, none⟩ ∧ wi.cell? ⟨x1, y1 + j, none⟩ = some (.bool true)) := by
              by_cases hl : j < n1
              · obtain ⟨b1, o1, h1, h2⟩ := (H1.out.keep HWI.out) j (by have := E1.out; omega)
                cases hv : bs.getD j false
                · rw [hv] at h2; exact ⟨b1, o1, .inl (.inr ⟨hl, h1, h2⟩)⟩
                · rw [hv] at h2; exact ⟨b1, o1, .inr ⟨hl, h1, h2⟩⟩
              · exact ⟨0, 0, .inl (.inl hl)⟩
            have HREL0 : Hid (∀ z, Frm [] wi z → MpRel w dp q m n room (.int .i64 ((j + 1 : Nat) : Nat)) (.pointer (some ⟨k, 0, none⟩)) z) := Lib.hid fun z hz => ⟨j + 1, k, S', l', hlt, by omega, rfl, rfl, Lib.hid (HT8.out.here (Z' := []) (HS9.out.trans hz (by simp) (by simp)) (by simp) (by simp)), HM8, HV8, HRC8⟩
            rcases hx1 with (hl | ⟨hl, ha1, hc1⟩) | ⟨hl, ha1, hc1⟩
            · have hge : decide ((j : Int) < (n1 : Int)) = false := decide_eq_false (by omega)
              have hge2 : decide (j < n1) = false := decide_eq_false hl
              go_wp2
              go_roundw
              case rel => exact HREL0.out _ (Frm.refl _ _)
              case measure => simp [intOf]; omega
            · subst ha1
              have hge : decide ((j : Int) < (n1 : Int)) = true := decide_eq_true (by omega)
              have hge2 : decide (j < n1) = true := decide_eq_true hl
              go_wp2
              go_roundw
              case rel => exact HREL0.out _ (Frm.refl _ _)
              case measure => simp [intOf]; omega
            · subst ha1
              have hge : decide ((j : Int) < (n1 : Int)) = true := decide_eq_true (by omega)
              have hge2 : decide (j < n1) = true := decide_eq_true hl
              have HCR := Lib.hid (tm_crash (j : Int) (j : Int) (HT8.out.same HS9.out))
              go_wp2_with fail
              (with_reducible refine HCR.out.mono ?_)
              rintro e wj ⟨rfl, htd, T1, hf1, hT1, hz1⟩
              have HOP := Lib.hid (td_open htd HRC8.out)
              have HWJ := Lib.hid ((HS9.out.whole HW8.out (by simp)))
              have hWj := hf1.whole HWJ.out (hz1 g (by simp))
              have HWJ2 := Lib.hid hWj
              clear htd hf1 hT1 hz1 hc1 hWj
              go_wp2_with fail
              (with_reducible refine HOP.out.mono ?_)
              rintro e wk ⟨k2, rfl, htm, T2, hf2, hT2, hz2⟩
              have hWk := hf2.whole HWJ2.out (hz2 g (by simp))
              have HWK := Lib.hid hWk
              have HSH2 := Lib.hid (fun (z : World) (hz : Frm [] wk z) => tm_shows t.ses (htm.same hz) HM8.out)
              have HREL1 : Hid (∀ z, Frm [] wk z → MpRel w dp q m n room (.int .i64 ((j + 1 : Nat) : Nat)) (.pointer (some ⟨k2, 0, none⟩)) z) := Lib.hid fun z hz => ⟨j + 1, k2, S', l', hlt, by omega, rfl, rfl, Lib.hid (htm.here (Z' := []) hz (by simp) (by simp)), HM8, HV8, HRC8⟩
              have xg : ∀ y, Frm [] wk y → y.cell? ⟨g, 4, none⟩ = some (.int .u64 (t.ses : Nat)) := fun y hy => (hy.whole HWK.out (by simp)).cell 4
              clear htm hf2 hT2 hz2 hWk HCR HOP HREL0
              go_wp2
              refine wp_region_held_drew (S := fun w' => Frm [] wk w') (by kernel_rfl) (Frm.refl _ _).drew (fun hHeld => ?_)
              refine wpAnyH_take (i := 0) (oi := ⟨some 130, _, _, _, _, _⟩) (v := ?_) rfl (by kernel_rfl) (by kernel_rfl) (by kernel_rfl) (fun _ _ _ h => h) (Or.inl ⟨by rfl, ?_⟩) (by assumption) ?_
              rotate_left 1
              · (intro w hSw; (try dsimp only at hSw); go_simp; all_goals with_reducible rfl)
              try simp only [Act.put, List.setIfInBounds_toArray, List.set_cons_zero, List.set_cons_succ]
              refine wpAnyH_take (i := 1) (oi := ⟨some 131, _, _, _, _, _⟩) (v := ?_) rfl (by kernel_rfl) (by kernel_rfl) (by kernel_rfl) (fun _ _ _ h => h) (Or.inl ⟨by rfl, ?_⟩) (by assumption) ?_
              rotate_left 1
              · (intro w hSw; (try dsimp only at hSw); go_simp; all_goals with_reducible rfl)
              try simp only [Act.put, List.setIfInBounds_toArray, List.set_cons_zero, List.set_cons_succ]
              refine wpAnyH_take (i := 2) (oi := ⟨some 132, _, _, _, _, _⟩) (v := ?_) rfl (by kernel_rfl) (by kernel_rfl) (by kernel_rfl) (fun _ _ _ h => h) (Or.inl ⟨by rfl, ?_⟩) (by assumption) ?_
              rotate_left 1
              · (intro w hSw; (try dsimp only at hSw); go_simp; all_goals with_reducible rfl)
              try simp only [Act.put, List.setIfInBounds_toArray, List.set_cons_zero, List.set_cons_succ]
              refine wpAnyH_take (i := 3) (oi := ⟨some 133, _, _, _, _, _⟩) (v := ?_) rfl (by kernel_rfl) (by kernel_rfl) (by kernel_rfl) (fun _ _ _ h => h) (Or.inl ⟨by rfl, ?_⟩) (by assumption) ?_
              rotate_left 1
              · (intro w hSw; (try dsimp only at hSw); go_simp; all_goals with_reducible rfl)
              try simp only [Act.put, List.setIfInBounds_toArray, List.set_cons_zero, List.set_cons_succ]
              refine wpAnyH_take (i := 4) (oi := ⟨some 134, _, _, _, _, _⟩) (v := ?_) rfl (by kernel_rfl) (by kernel_rfl) (by kernel_rfl) (fun _ _ _ h => h) (Or.inl ⟨by rfl, ?_⟩) (by assumption) ?_
              rotate_left 1
              · (intro w hSw; (try dsimp only at hSw); go_simp; all_goals with_reducible rfl)
              try simp only [Act.put, List.setIfInBounds_toArray, List.set_cons_zero, List.set_cons_succ]
              refine wpAnyH_take (i := 5) (oi := ⟨some 135, _, _, _, _, _⟩) (v := ?_) rfl (by kernel_rfl) (by kernel_rfl) (by kernel_rfl) (fun _ _ _ h => h) (Or.inl ⟨by rfl, ?_⟩) (by assumption) ?_
              rotate_left 1
              · (intro w hSw; (try dsimp only at hSw); go_simp; all_goals with_reducible rfl)
              try simp only [Act.put, List.setIfInBounds_toArray, List.set_cons_zero, List.set_cons_succ]
              refine wpAnyH_take (i := 6) (oi := ⟨some 136, _, _, _, _, _⟩) (v := ?_) rfl (by kernel_rfl) (by kernel_rfl) (by kernel_rfl) (fun _ _ _ h => h) (Or.inl ⟨by rfl, ?_⟩) (by assumption) ?_
              rotate_left 1
              · (intro w hSw; (try dsimp only at hSw); go_simp; all_goals with_reducible rfl)
              try simp only [Act.put, List.setIfInBounds_toArray, List.set_cons_zero, List.set_cons_succ]
              refine wpAnyH_take (i := 7) (oi := ⟨some 137, _, _, _, _, _⟩) (v := ?_) rfl (by kernel_rfl) (by kernel_rfl) (by kernel_rfl) (fun _ _ _ h => h) (Or.inl ⟨by rfl, ?_⟩) (by assumption) ?_
              rotate_left 1
              · (intro w hSw; (try dsimp only at hSw); go_simp; all_goals with_reducible rfl)
              try simp only [Act.put, List.setIfInBounds_toArray, List.set_cons_zero, List.set_cons_succ]
              refine wpAnyH_take (i := 8) (oi := ⟨some 138, _, _, _, _, _⟩) (v := ?_) rfl (by kernel_rfl) (by kernel_rfl) (by kernel_rfl) (fun _ _ _ h => h) (Or.inl ⟨by rfl, ?_⟩) (by assumption) ?_
              rotate_left 1
              · (intro w hSw; (try dsimp only at hSw); go_simp; all_goals with_reducible rfl)
              try simp only [Act.put, List.setIfInBounds_toArray, List.set_cons_zero, List.set_cons_succ]
              refine wpAnyH_ready (rs := [9]) (by kernel_rfl) (by simp) ?_
              refine AllReadyH.cons (o := ⟨some 139, _, _, _, _, _⟩) rfl (fun K hK => ?_) AllReadyH.nil
              go_simp
              (go_at_call 13; (with_reducible refine (HSH2.out _ (by assumption)).mono ?_); rintro e wm ⟨rfl, hfm⟩; have Sm : Frm [] wk wm := Frm.trans (by assumption) hfm (by simp) (by simp); clear hfm)
              go_wp2_with fail
              refine hK.out _ _ (by assumption) (fun hHeld => ?_)
              clear hK K
              try simp only [Act.put, List.setIfInBounds_toArray, List.set_cons_zero, List.set_cons_succ]
              refine wpAnyH_take (i := 10) (oi := ⟨some 140, _, _, _, _, _⟩) (v := ?_) rfl (by kernel_rfl) (by kernel_rfl) (by kernel_rfl) (fun _ _ _ h => h) (Or.inl ⟨by rfl, ?_⟩) (by assumption) ?_
              rotate_left 1
              · (intro w hSw; (try dsimp only at hSw); go_simp; all_goals with_reducible rfl)
              try simp only [Act.put, List.setIfInBounds_toArray, List.set_cons_zero, List.set_cons_succ]
              refine wpAnyH_take (i := 11) (oi := ⟨some 141, _, _, _, _, _⟩) (v := ?_) rfl (by kernel_rfl) (by kernel_rfl) (by kernel_rfl) (fun _ _ _ h => h) (Or.inl ⟨by rfl, ?_⟩) (by assumption) ?_
              rotate_left 1
              · (intro w hSw; (try dsimp only at hSw); go_simp; all_goals with_reducible rfl)
              try simp only [Act.put, List.setIfInBounds_toArray, List.set_cons_zero, List.set_cons_succ]
              refine wpAnyH_done (by kernel_rfl) ?_ _
              clear xg
              go_wp2
              go_roundw
              case rel => exact HREL1.out _ (by assumption)
              case measure => simp [intOf]; omega
        · rw [hlong] at HLO
          go_wp2_with fail
          rw [← HW4.out]
          (with_reducible refine HLO.out.mono ?_)
          rintro e w5 ⟨rfl, hf5⟩
          have HE := Lib.hid (HF.out.trans (HF4.out.trans hf5 (U := []) (by simp) (by simp)) (U := []) (by simp) (by simp))
          clear hf5 HLO p0 p1 p2 p3 p4 p5
          go_wp2
          go_ret
          exact ⟨rfl, HE.out.below (by simp) (Nat.le_refl _)⟩
    · have hge : decide ((j : Int) < (n : Int)) = false := decide_eq_false (by omega)
      go_wp2
      go_ret
      exact ⟨rfl, HF.out.below (by simp) (Nat.le_refl _)⟩
end Go.Proofs.YtomgiockelhfiaaGreat
