/- Contract of the document's snap: a state taken from a record. -/
import Derived.Test.YtomgiockelhfiaaGreatMX
import Derived.Test.YtomgiockelhfiaaGreatZReRd
import Derived.Test.YtomgiockelhfiaaGreatZRePar
import Derived.Test.YtomgiockelhfiaaGreatZRdRecS
import Derived.Test.YtomgiockelhfiaaGreatZRbOf
import Derived.Test.YtomgiockelhfiaaGreatZTrLoads
namespace Go.Proofs.YtomgiockelhfiaaGreat
open Go.RowKit
set_option maxRecDepth 100000
def SpRel (w0 : World) (Bd rb m : Nat) (F : List Nat) (o3 : Option (List Nat)) (s7 s9 : Value) (wr : World) : Prop :=
  ∃ (i : Nat) (a : Option Addr) (c : Nat) (X : List Sn) (o : Option (List Nat)), i ≤ m ∧ s7 = .slice a i c ∧ s9 = .int .i64 (i : Nat) ∧ Hid (i = X.length) ∧ Hid (SOwn wr w0.heap.size 132 F a c X) ∧ Hid (RS wr Bd rb o) ∧ Hid (o3.bind (pXs i) = o.map (Prod.mk X)) ∧ Hid (Frm [rb] w0 wr)
def SqRel (w0 : World) (Bd rb m : Nat) (F : List Nat) (o3 : Option (List Nat)) (s11 s12 : Value) (wr : World) : Prop :=
  ∃ (i : Nat) (a : Option Addr) (c : Nat) (X : List Nx) (o : Option (List Nat)), i ≤ m ∧ s11 = .slice a i c ∧ s12 = .int .i64 (i : Nat) ∧ Hid (i = X.length) ∧ Hid (NOwn wr w0.heap.size 59 F a c X) ∧ Hid (RS wr Bd rb o) ∧ Hid (o3.bind (pNs i) = o.map (Prod.mk (nds X))) ∧ Hid (Frm [rb] w0 wr)
/-- What snap answers and leaves. -/
def SnapE (w : World) (B q rb : Nat) (F : List Nat) (o : Option (List Nat)) (e : Ending) (w' : World) : Prop :=
  (∃ S', repS (o.bind pS) = some S' ∧ e = .returned (.bool true) ∧ Ds w' B q F S' ∧ Frm [q, rb] w w') ∨ (repS (o.bind pS) = none ∧ e = .returned (.bool false) ∧ Frm [rb] w w')
set_option maxHeartbeats 16000000 in
theorem rsnap_any {w : World} {B Bd q rb : Nat} {F : List Nat} {S : MS} {o : Option (List Nat)} (hd : Ds w B q F S) (hr : RS w Bd rb o) (hB : ∀ x ∈ q :: F, Bd ≤ x) (hrF : rb ∈ F) (hF : ∀ x ∈ F, x < w.heap.size) :
    Calls Tryz.prog 96 #[.pointer (some ⟨q, 0, none⟩), .pointer (some ⟨rb, 0, none⟩)] w (SnapE w B q rb F o) := by
  obtain ⟨i0, hi, hz0, hz1, hz2⟩ := info_parts Tryz.info132
  have HI := Lib.hid hi; clear hi
  have HZ0 := Lib.hid hz0; clear hz0
  have HZ1 := Lib.hid hz1; clear hz1
  have HZ2 := Lib.hid hz2; clear hz2
  obtain ⟨i1, hi, hz0, hz1, hz2⟩ := info_parts Tryz.info59
  have UI := Lib.hid hi; clear hi
  have UZ0 := Lib.hid hz0; clear hz0
  have UZ1 := Lib.hid hz1; clear hz1
  have UZ2 := Lib.hid hz2; clear hz2
  have HD := Lib.hid hd
  have HR := Lib.hid hr
  have HBB := Lib.hid hB
  have HRF := Lib.hid hrF
  have HFF := Lib.hid (show ∀ x ∈ q :: F, x < w.heap.size from fun x hx => by
    rcases List.mem_cons.1 hx with rfl | hx
    · exact hd.plt
    · exact hF x hx)
  have hqr : q ≠ rb := fun e => hd.out (e ▸ hrF)
  have HQR := Lib.hid hqr
  obtain ⟨Q, hQ⟩ : ∃ Q, Q = SnapE w B q rb F o := ⟨_, rfl⟩
  have HQ := Lib.hid hQ
  rw [← hQ]
  clear hd hr hB hrF hF hQ hqr
  go_enter Tryz.func96, Tryz.ntmps96
  go_wp2_with fail
  (with_reducible refine (rs_num 8 8 rfl HR.out (by omega)).mono ?_)
  rintro e w1 ⟨now, o1, rfl, h1, hn1, hr1, hf1⟩
  have H1 := Lib.hid h1
  have HNW : Hid (now < 18446744073709551616) := Lib.hid hn1
  have HR1 := Lib.hid hr1
  have HF1 := Lib.hid hf1
  clear h1 hn1 hr1 hf1 HR
  go_wp2_with fail
  (with_reducible refine (rs_num 8 8 rfl HR1.out (by omega)).mono ?_)
  rintro e w2 ⟨last, o2, rfl, h2, hn2, hr2, hf2⟩
  have H2 := Lib.hid h2
  have HLS : Hid (last < 18446744073709551616) := Lib.hid hn2
  have HR2 := Lib.hid hr2
  have HF2 := Lib.hid (HF1.out.trans hf2 (U := [rb]) (fun _ h => h) (fun x hx => .inl hx))
  clear h2 hn2 hr2 hf2 HR1 HF1
  go_wp2_with fail
  (with_reducible refine (rs_num 2 2 rfl HR2.out (by omega)).mono ?_)
  rintro e w3 ⟨m, o3, rfl, h3, hn3, hr3, hf3⟩
  have H3 := Lib.hid h3
  have hm : m < 65536 := hn3
  have HR3 := Lib.hid hr3
  have HF3 := Lib.hid (HF2.out.trans hf3 (U := [rb]) (fun _ h => h) (fun x hx => .inl hx))
  have HBW : Hid (Bd ≤ w3.heap.size) := Lib.hid (by have := hr3.lt; omega)
  clear h3 hn3 hr3 hf3 HR2 HF2
  have ew : IntKind.i64.wrap (m : Int) = (m : Int) := by simp [IntKind.wrap, IntKind.bits, IntKind.signed]; omega
  have HR0 : Hid (SpRel w3 Bd rb m (q :: F) o3 (.slice none 0 0) (.int .i64 (0 : Nat)) w3) := Lib.hid ⟨0, none, 0, [], o3, Nat.zero_le _, rfl, rfl, Lib.hid rfl, Lib.hid (SOwn.nil _ _ _ _), HR3, Lib.hid (by cases o3 <;> rfl), Lib.hid (Frm.refl _ _)⟩
  clear HR3
  go_wp2
  clear ew
  go_loopw [7, 9] (fun s7 s9 wr => SpRel w3 Bd rb m (q :: F) o3 s7 s9 wr) (fun _ s9 _ => m - (intOf s9).toNat)
  case atStart => exact HR0.out
  case round =>
    clear HR0
    obtain ⟨i, a, c, X, oi, hi, rfl, rfl, HX, HO, HRI, HE, HFI⟩ := hrel
    obtain ⟨code, k1, hcode⟩ := HRI.out.code
    by_cases hgo : i < m ∧ code = 0
    · obtain ⟨hlt, rfl⟩ := hgo
      have hS : oi ≠ none := hcode.1 rfl
      have k2 := k1
      rw [show ((0 : Nat) : Int) = 0 from rfl] at k2
      clear k1 hcode
      have hwr : w3.heap.size ≤ wr.heap.size := HFI.out.size
      have hrbw : rb < wr.heap.size := HRI.out.lt.2
      obtain ⟨w4, hw4⟩ : ∃ w4, w4 = wr.alloc (.cells #[.int .u64 0, .int .u64 0, .int .u64 0] 132) := ⟨_, rfl⟩
      obtain ⟨g, hg⟩ : ∃ g, g = wr.heap.size := ⟨_, rfl⟩
      have hW4 := Whole.made wr 132 #[.int .u64 0, .int .u64 0, .int .u64 0]
      rw [← hw4, ← hg] at hW4
      have hf4 : Frm [] wr w4 := by rw [hw4]; exact (Frm.refl _ _).alloc _
      have hgr : g ≠ rb := by omega
      have hgB : Bd ≤ g := by have := HBW.out; omega
      have HW4 := Lib.hid hw4
      have HG := Lib.hid hg
      have HWG4 := Lib.hid hW4
      have HR4 := Lib.hid (HRI.out.keep hf4 (by simp) (by simp))
      have HF4 := Lib.hid hf4
      clear hw4 hg hW4 hf4
      go_wp2_with fail
      rw [← HW4.out, ← HG.out]
      clear k2
      (with_reducible refine (rs_num 8 8 rfl HR4.out (by omega)).mono ?_)
      rintro e w5 ⟨x1, oa, rfl, ha, hx1, hra, hfa⟩
      have HA := Lib.hid ha
      have hx1' : x1 < 18446744073709551616 := hx1
      have hW5 := hfa.whole HWG4.out (by simpa using hgr)
      obtain ⟨w6, hw6⟩ : ∃ w6, w6 = w5.setCell ⟨g, 0, none⟩ (.int .u64 (x1 : Nat)) := ⟨_, rfl⟩
      have hW6 : Whole w6 g 132 #[.int .u64 (x1 : Nat), .int .u64 0, .int .u64 0] := by rw [hw6]; simpa using hW5.put 0 (.int .u64 (x1 : Nat))
      have hf6 : Frm [g] w5 w6 := by rw [hw6]; exact (Frm.refl _ _).setCell (.inl (by simp)) _
      have HR6 := Lib.hid (hra.keep hf6 (fun x hx => by simp at hx; omega) (by simpa using Ne.symm hgr))
      have HF6 : Hid (Frm [rb] wr w6) := Lib.hid ((HF4.out.trans hfa (U := [rb]) (by simp) (fun x hx => .inl hx)).trans hf6 (fun _ h => h) (fun x hx => .inr (by simp at hx; have := HG.out; omega)))
      have HW6 := Lib.hid hw6
      have HWG6 := Lib.hid hW6
      have y0 := hW5.cell 0
      have z0 := hW5.free 0
      simp at y0
      clear ha hx1 hra hfa hW5 hw6 hW6 hf6 HR4
      go_wp2_with fail
      rw [← HW6.out]
      clear y0 z0
      (with_reducible refine (rs_num 8 8 rfl HR6.out (by omega)).mono ?_)
      rintro e w7 ⟨x2, ob8, rfl, hb, hx2, hrb, hfb⟩
      have HB := Lib.hid hb
      have hx2' : x2 < 18446744073709551616 := hx2
      have hW7 := hfb.whole HWG6.out (by simpa using hgr)
      obtain ⟨w8, hw8⟩ : ∃ w8, w8 = w7.setCell ⟨g, 1, none⟩ (.int .u64 (x2 : Nat)) := ⟨_, rfl⟩
      have hW8 : Whole w8 g 132 #[.int .u64 (x1 : Nat), .int .u64 (x2 : Nat), .int .u64 0] := by rw [hw8]; simpa using hW7.put 1 (.int .u64 (x2 : Nat))
      have hf8 : Frm [g] w7 w8 := by rw [hw8]; exact (Frm.refl _ _).setCell (.inl (by simp)) _
      have HR8 := Lib.hid (hrb.keep hf8 (fun x hx => by simp at hx; omega) (by simpa using Ne.symm hgr))
      have HF8 : Hid (Frm [rb] wr w8) := Lib.hid ((HF6.out.trans hfb (U := [rb]) (fun _ h => h) (fun x hx => .inl hx)).trans hf8 (fun _ h => h) (fun x hx => .inr (by simp at hx; have := HG.out; omega)))
      have HW8 := Lib.hid hw8
      have HWG8 := Lib.hid hW8
      have y1 := hW7.cell 1
      have z1 := hW7.free 1
      simp at y1
      clear hb hx2 hrb hfb hW7 hw8 hW8 hf8 HR6 HF6 HW6 HWG6
      go_wp2_with fail
      rw [← HW8.out]
      clear y1 z1
      (with_reducible refine (rs_num 8 8 rfl HR8.out (by omega)).mono ?_)
      rintro e w9 ⟨x3, oc, rfl, hc, hx3, hrc, hfc⟩
      have HC := Lib.hid hc
      have hx3' : x3 < 18446744073709551616 := hx3
      have hW9 := hfc.whole HWG8.out (by simpa using hgr)
      obtain ⟨wa, hwa⟩ : ∃ wa, wa = w9.setCell ⟨g, 2, none⟩ (.int .u64 (x3 : Nat)) := ⟨_, rfl⟩
      have hWa : Whole wa g 132 #[.int .u64 (x1 : Nat), .int .u64 (x2 : Nat), .int .u64 (x3 : Nat)] := by rw [hwa]; simpa using hW9.put 2 (.int .u64 (x3 : Nat))
      have hfA : Frm [g] w9 wa := by rw [hwa]; exact (Frm.refl _ _).setCell (.inl (by simp)) _
      have hra := hrc.keep hfA (fun x hx => by simp at hx; omega) (by simpa using Ne.symm hgr)
      have hfra : Frm [rb] wr wa := (HF8.out.trans hfc (U := [rb]) (fun _ h => h) (fun x hx => .inl hx)).trans hfA (fun _ h => h) (fun x hx => .inr (by simp at hx; have := HG.out; omega))
      have HRA := Lib.hid hra
      have HFA := Lib.hid hfra
      have HWA := Lib.hid hwa
      have y2 := hW9.cell 2
      have z2 := hW9.free 2
      have q0 := hW9.cell 0
      have q1 := hW9.cell 1
      simp at y2 q0 q1
      obtain ⟨wb, hwb⟩ : ∃ wb, wb = wa.alloc (.cells #[.int .u64 (x1 : Nat), .int .u64 (x2 : Nat), .int .u64 (x3 : Nat)] 132) := ⟨_, rfl⟩
      have hfb2 : Frm [] wa wb := by rw [hwb]; exact (Frm.refl _ _).alloc _
      have hOb := (HO.out.keep (F' := q :: F) hfra (fun x hx => by simp at hx; subst hx; exact .inl (List.mem_cons_of_mem _ HRF.out)) (fun x hx => .inl hx)).keep (F' := q :: F) hfb2 (by simp) (fun x hx => .inl hx)
      have HOB := Lib.hid hOb
      have HOW : Hid (wb.ownsRow w3.heap.size 132 3 (.slice a i c) i (snc X)) := Lib.hid (by have h := hOb.own; rw [← HX.out] at h; exact h)
      have HV : Hid (ValsAt wb (some ⟨w9.heap.size, 0, none⟩) (snc [⟨x1, x2, x3⟩])) := Lib.hid (by rw [hwb, show w9.heap.size = wa.heap.size by rw [hwa]; simp [World.setCell]]; exact snvals_one wa ⟨x1, x2, x3⟩ _)
      have HFB : Hid (Frm [rb] w3 wb) := Lib.hid ((HFI.out.trans hfra (U := [rb]) (fun _ h => h) (fun x hx => .inl hx)).trans hfb2 (fun _ h => h) (by simp))
      have HRB := Lib.hid (hra.keep hfb2 (by simp) (by simp))
      have HWB := Lib.hid hwb
      clear hc hx3 hrc hfc hW9 hwa hWa hfA hra hfra hwb hfb2 hOb HR8 HF8 HW8 HWG8
      go_wp2_with (at_builtin; rw [← HWA.out, ← HWB.out]; refine wpList_appS (by rfl) (.tmp 45) (.tmp 47) 42 rfl w3.heap.size 132 i0 (.agg #[.int .u64 0, .int .u64 0, .int .u64 0]) 3 24 Tryz.underlying42 HI.out HZ0.out rfl (by decide) HZ1.out HZ2.out (by decide) (.slice a i c) i _ rfl HOW.out (some ⟨w9.heap.size, 0, none⟩) 1 1 (snc [⟨x1, x2, x3⟩]) rfl HV.out rfl (snc_one _) (fun h => by cases h) (by omega) HFB.out.size ?_)
      intro a3 c3 wc happ
      obtain ⟨g1, g2, g3, g4⟩ := HOB.out.app (Y := [⟨x1, x2, x3⟩]) HX.out (fun y hy => by simp at hy; subst hy; exact ⟨hx1', hx2', hx3'⟩) rfl (fun x hx => Nat.lt_of_lt_of_le (HFF.out x hx) (by have h1 := HF3.out.size; have h2 := HFB.out.size; omega)) happ
      have hro : ∀ x ∈ blk a, w3.heap.size ≤ x := fun x hx => (HOB.out.blk_lt x hx).1
      have HXN : Hid (i + 1 = (X ++ [(⟨x1, x2, x3⟩ : Sn)]).length) := Lib.hid g4
      have HON := Lib.hid g1
      have HRN := Lib.hid (HRB.out.keep g2 (fun x hx => by have := hro x hx; have := HBW.out; omega) (fun hm => by have h1 := hro rb hm; have h2 := HF3.out.size; have h3 := HFF.out rb (List.mem_cons_of_mem _ HRF.out); omega))
      have HEN : Hid (o3.bind (pXs (i + 1)) = oc.map (Prod.mk (X ++ [⟨x1, x2, x3⟩]))) := Lib.hid (pXs_next HE.out HA.out HB.out HC.out)
      have HFN : Hid (Frm [rb] w3 wc) := Lib.hid (HFB.out.trans g2 (fun _ h => h) (fun x hx => .inr (hro x hx)))
      clear happ g1 g2 g3 g4 hro y2 z2 q0 q1
      go_wp2
      go_roundw
      case rel => exact ⟨i + 1, a3, c3, _, oc, by omega, rfl, by go_num, HXN, HON, HRN, HEN, HFN⟩
      case measure => simp [intOf]; omega
    · have HEX : Hid (o3.bind (pXs m) = oi.map (Prod.mk X)) := Lib.hid (by
        by_cases hlt : i < m
        · have h0 : oi = none := by
            cases oi with
            | none => rfl
            | some l => exact absurd ⟨hlt, hcode.2 (by simp)⟩ hgo
          have h1 := HE.out
          rw [h0] at h1 ⊢
          have := pXs_fail h1 (m - i)
          rw [show i + (m - i) = m by omega] at this
          exact this
        · obtain rfl : i = m := by omega
          exact HE.out)
      have hi16 : i < 65536 := by omega
      have hgc : (¬ i < m) ∨ (i < m ∧ ((code : Int) == 0) = false) := by
        by_cases hlt : i < m
        · exact .inr ⟨hlt, by rw [beq_eq_false_iff_ne]; intro h; exact hgo ⟨hlt, by omega⟩⟩
        · exact .inl hlt
      clear hgo hcode
      rcases hgc with hlt | ⟨hlt, hcb⟩
      all_goals
        go_wp2_with fail
        (with_reducible refine (rs_num 2 2 rfl HRI.out (by omega)).mono ?_)
        rintro e w4 ⟨m2, o5, rfl, h5, hn5, hr5, hf5⟩
        clear k1 hlt
        have H5 := Lib.hid h5
        have hm2 : m2 < 65536 := hn5
        have HF4 := Lib.hid (HFI.out.trans hf5 (U := [rb]) (fun _ h => h) (fun x hx => .inl hx))
        have HO4 := Lib.hid (HO.out.keep (F' := q :: F) hf5 (fun x hx => by simp at hx; subst hx; exact .inl (List.mem_cons_of_mem _ HRF.out)) (fun x hx => .inl hx))
        have ew : IntKind.i64.wrap (m2 : Int) = (m2 : Int) := by simp [IntKind.wrap, IntKind.bits, IntKind.signed]; omega
        have HR0 : Hid (SqRel w4 Bd rb m2 (q :: F) o5 (.slice none 0 0) (.int .i64 (0 : Nat)) w4) := Lib.hid ⟨0, none, 0, [], o5, Nat.zero_le _, rfl, rfl, Lib.hid rfl, Lib.hid (NOwn.nil _ _ _ _), Lib.hid hr5, Lib.hid (by cases o5 <;> rfl), Lib.hid (Frm.refl _ _)⟩
        clear h5 hn5 hr5 hf5 HRI HFI HO HE
        go_wp2
        clear ew
        go_loopw [11, 12] (fun s11 s12 wr => SqRel w4 Bd rb m2 (q :: F) o5 s11 s12 wr) (fun _ s12 _ => m2 - (intOf s12).toNat)
        case atStart => exact HR0.out
        case round =>
          clear HR0
          obtain ⟨i2, b, d, Y, oj, hi2, rfl, rfl, HY, HN2, HRJ, HE2, HFJ⟩ := hrel
          obtain ⟨code2, k1, hcode⟩ := HRJ.out.code
          by_cases hgo : i2 < m2 ∧ code2 = 0
          · obtain ⟨hlt, rfl⟩ := hgo
            have k2 := k1
            rw [show ((0 : Nat) : Int) = 0 from rfl] at k2
            clear k1 hcode
            have hwr : w4.heap.size ≤ wr.heap.size := HFJ.out.size
            have hw34 : w3.heap.size ≤ w4.heap.size := HF4.out.size
            have hrbw : rb < wr.heap.size := HRJ.out.lt.2
            obtain ⟨w5, hw5⟩ : ∃ w5, w5 = wr.alloc (.cells #[.string ⟨#[]⟩, .slice none 0 0, .int .u64 0, .int .u64 0] 59) := ⟨_, rfl⟩
            obtain ⟨g, hg⟩ : ∃ g, g = wr.heap.size := ⟨_, rfl⟩
            have hW5 := Whole.made wr 59 #[.string ⟨#[]⟩, .slice none 0 0, .int .u64 0, .int .u64 0]
            rw [← hw5, ← hg] at hW5
            have hf5 : Frm [] wr w5 := by rw [hw5]; exact (Frm.refl _ _).alloc _
            have hgr : g ≠ rb := by omega
            have hgB : Bd ≤ g := by have := HBW.out; omega
            have HW5 := Lib.hid hw5
            have HG := Lib.hid hg
            have HWG5 := Lib.hid hW5
            have HR5 := Lib.hid (HRJ.out.keep hf5 (by simp) (by simp))
            have HFX5 := Lib.hid hf5
            clear hw5 hg hW5 hf5
            go_wp2_with fail
            rw [← HW5.out, ← HG.out]
            clear k2
            (with_reducible refine (rs_bytes HR5.out).mono ?_)
            rintro e w6 ⟨kv, ka, kn, kc, oa, rfl, hkn, ha, hkb, hkB, hknil, hra, hfa⟩
            have HA := Lib.hid ha
            have cvk : (Go.convert 35 9 (.slice ka kn kc)).run Tryz.prog w6 = .ok (.string (strOf kv)) w6 := run_to_string (P := Tryz.prog) (src := 35) (dst := 9) (e := 5) Tryz.underlying35 Tryz.underlying5 Tryz.underlying9 hkb hkn.out
            have HKL : Hid (kv.length ≤ 9223372036854775807) := Lib.hid hkb.2.1
            have hW6 := hfa.whole HWG5.out (by simpa using hgr)
            obtain ⟨w7, hw7⟩ : ∃ w7, w7 = w6.setCell ⟨g, 0, none⟩ (.string (strOf kv)) := ⟨_, rfl⟩
            have hW7 : Whole w7 g 59 #[.string (strOf kv), .slice none 0 0, .int .u64 0, .int .u64 0] := by rw [hw7]; simpa using hW6.put 0 (.string (strOf kv))
            have hfn : Frm [g] w6 w7 := by rw [hw7]; exact (Frm.refl _ _).setCell (.inl (by simp)) _
            have HR7 := Lib.hid (hra.keep hfn (fun x hx => by simp at hx; omega) (by simpa using Ne.symm hgr))
            have HFX7 : Hid (Frm [rb] wr w7) := Lib.hid ((HFX5.out.trans hfa (U := [rb]) (by simp) (fun x hx => .inl hx)).trans hfn (fun _ h => h) (fun x hx => .inr (by simp at hx; have := HG.out; omega)))
            have HW7 := Lib.hid hw7
            have HWG7 := Lib.hid hW7
            have yc := hW6.cell 0
            have zc := hW6.free 0
            simp at yc
            clear ha hkb hkB hknil hra hfa hfn hW6 hw7 hW7 HR5
            go_wp2_with fail
            rw [← HW7.out]
            clear yc zc cvk
            (with_reducible refine (rs_bytes HR7.out).mono ?_)
            rintro e w8 ⟨vv, va, vn, vc, ob8, rfl, hvn, hb, hvb, hvB, hvnil, hrb, hfb⟩
            have HB := Lib.hid hb
            have HVB := Lib.hid hvb
            have HVBD := Lib.hid hvB
            have HVNIL := Lib.hid hvnil
            have hW8 := hfb.whole HWG7.out (by simpa using hgr)
            obtain ⟨w9, hw9⟩ : ∃ w9, w9 = w8.setCell ⟨g, 1, none⟩ (.slice va vn vc) := ⟨_, rfl⟩
            have hW9 : Whole w9 g 59 #[.string (strOf kv), .slice va vn vc, .int .u64 0, .int .u64 0] := by rw [hw9]; simpa using hW8.put 1 (.slice va vn vc)
            have hfn : Frm [g] w8 w9 := by rw [hw9]; exact (Frm.refl _ _).setCell (.inl (by simp)) _
            have HR9 := Lib.hid (hrb.keep hfn (fun x hx => by simp at hx; omega) (by simpa using Ne.symm hgr))
            have HFX9 : Hid (Frm [rb] wr w9) := Lib.hid ((HFX7.out.trans hfb (U := [rb]) (by simp) (fun x hx => .inl hx)).trans hfn (fun _ h => h) (fun x hx => .inr (by simp at hx; have := HG.out; omega)))
            have HW9 := Lib.hid hw9
            have HWG9 := Lib.hid hW9
            have yc := hW8.cell 1
            have zc := hW8.free 1
            simp at yc
            have HV89 := Lib.hid hfn
            clear hb hvb hvB hvnil hrb hfb hfn hW8 hw9 hW9 HR7 HFX5
            go_wp2_with fail
            rw [← HW9.out]
            clear yc zc
            (with_reducible refine (rs_num 8 8 rfl HR9.out (by omega)).mono ?_)
            rintro e w10 ⟨x3, oc, rfl, hc, hx3, hrc, hfc⟩
            have HC := Lib.hid hc
            have hx3' : x3 < 18446744073709551616 := hx3
            have hW10 := hfc.whole HWG9.out (by simpa using hgr)
            obtain ⟨w11, hw11⟩ : ∃ w11, w11 = w10.setCell ⟨g, 2, none⟩ (.int .u64 (x3 : Nat)) := ⟨_, rfl⟩
            have hW11 : Whole w11 g 59 #[.string (strOf kv), .slice va vn vc, .int .u64 (x3 : Nat), .int .u64 0] := by rw [hw11]; simpa using hW10.put 2 (.int .u64 (x3 : Nat))
            have hfn : Frm [g] w10 w11 := by rw [hw11]; exact (Frm.refl _ _).setCell (.inl (by simp)) _
            have HR11 := Lib.hid (hrc.keep hfn (fun x hx => by simp at hx; omega) (by simpa using Ne.symm hgr))
            have HFX11 : Hid (Frm [rb] wr w11) := Lib.hid ((HFX9.out.trans hfc (U := [rb]) (by simp) (fun x hx => .inl hx)).trans hfn (fun _ h => h) (fun x hx => .inr (by simp at hx; have := HG.out; omega)))
            have HW11 := Lib.hid hw11
            have HWG11 := Lib.hid hW11
            have yc := hW10.cell 2
            have zc := hW10.free 2
            simp at yc
            have HV911 := Lib.hid ((hfc.trans hfn (U := [rb, g]) (by simp) (by simp) : Frm [rb, g] w9 w11))
            clear hc hx3 hrc hfc hfn hW10 hw11 hW11 HR9 HFX7
            go_wp2_with fail
            rw [← HW11.out]
            clear yc zc
            (with_reducible refine (rs_num 8 8 rfl HR11.out (by omega)).mono ?_)
            rintro e w12 ⟨x4, od, rfl, hd, hx4, hrd, hfd⟩
            have HDD := Lib.hid hd
            have hx4' : x4 < 18446744073709551616 := hx4
            have hW12 := hfd.whole HWG11.out (by simpa using hgr)
            obtain ⟨w13, hw13⟩ : ∃ w13, w13 = w12.setCell ⟨g, 3, none⟩ (.int .u64 (x4 : Nat)) := ⟨_, rfl⟩
            have hW13 : Whole w13 g 59 #[.string (strOf kv), .slice va vn vc, .int .u64 (x3 : Nat), .int .u64 (x4 : Nat)] := by rw [hw13]; simpa using hW12.put 3 (.int .u64 (x4 : Nat))
            have hfn : Frm [g] w12 w13 := by rw [hw13]; exact (Frm.refl _ _).setCell (.inl (by simp)) _
            have HR13 := Lib.hid (hrd.keep hfn (fun x hx => by simp at hx; omega) (by simpa using Ne.symm hgr))
            have HFX13 : Hid (Frm [rb] wr w13) := Lib.hid ((HFX11.out.trans hfd (U := [rb]) (by simp) (fun x hx => .inl hx)).trans hfn (fun _ h => h) (fun x hx => .inr (by simp at hx; have := HG.out; omega)))
            have HW13 := Lib.hid hw13
            have HWG13 := Lib.hid hW13
            have yc := hW12.cell 3
            have zc := hW12.free 3
            simp at yc
            have q0 := hW12.cell 0
            have q1 := hW12.cell 1
            have q2 := hW12.cell 2
            simp at q0 q1 q2
            obtain ⟨wz, hwz⟩ : ∃ wz, wz = w13.alloc (.cells #[.string (strOf kv), .slice va vn vc, .int .u64 (x3 : Nat), .int .u64 (x4 : Nat)] 59) := ⟨_, rfl⟩
            have hfz : Frm [] w13 wz := by rw [hwz]; exact (Frm.refl _ _).alloc _
            have hfra : Frm [rb] wr w13 := HFX13.out
            have hOb := (HN2.out.keep (F' := q :: F) hfra (fun x hx => by simp at hx; subst hx; exact .inl (List.mem_cons_of_mem _ HRF.out)) (fun x hx => .inl hx)).keep (F' := q :: F) hfz (by simp) (fun x hx => .inl hx)
            have HOB := Lib.hid hOb
            have HOW : Hid (wz.ownsRow w4.heap.size 59 4 (.slice b i2 d) i2 (nc Y)) := Lib.hid (by have h := hOb.own; rw [← HY.out] at h; exact h)
            have HV : Hid (ValsAt wz (some ⟨w12.heap.size, 0, none⟩) (nc [⟨⟨strOf kv, vv, x3, x4⟩, va, vc⟩])) := Lib.hid (by rw [hwz, show w12.heap.size = w13.heap.size by rw [hw13]; simp [World.setCell], hvn.out]; exact nvals_one w13 ⟨⟨strOf kv, vv, x3, x4⟩, va, vc⟩ _)
            have HFZ : Hid (Frm [rb] w4 wz) := Lib.hid ((HFJ.out.trans hfra (U := [rb]) (fun _ h => h) (fun x hx => .inl hx)).trans hfz (fun _ h => h) (by simp))
            have HRZ := Lib.hid (HR13.out.keep hfz (by simp) (by simp))
            have hbz : Bytes wz va vv := by
              have h1 : Frm [rb, g] w8 wz := ((HV89.out.trans HV911.out (U := [rb, g]) (by simp) (fun x hx => .inl hx)).trans (hfd.trans hfn (U := [rb, g]) (by simp) (by simp)) (fun _ h => h) (fun x hx => .inl hx)).trans hfz (fun _ h => h) (by simp)
              exact h1.bytes' HVB.out (fun hne x hx hm => by have h2 := HVBD.out hne x hx; have h3 := HRZ.out.lt.1; simp at hm; omega)
            have HOK : Hid (NOk wz (blk b ++ (q :: F)) [⟨⟨strOf kv, vv, x3, x4⟩, va, vc⟩]) := Lib.hid fun y hy => by
              simp at hy
              subst hy
              refine ⟨hbz, fun hne x hx hm => ?_, HVNIL.out, hx3', hx4', by show (strOf kv).size ≤ _; rw [strOf_size]; exact HKL.out⟩
              have h2 := HVBD.out hne x hx
              rcases List.mem_append.1 hm with h | h
              · have h3 := (HN2.out.blk_lt _ h).1; have := HBW.out; omega
              · have := HBB.out _ h; omega
            have HWZ := Lib.hid hwz
            clear hd hx4 hrd hfd hfn hW12 hw13 hW13 hfra hwz hfz hOb hbz HR11 HFX9
            go_wp2_with (at_builtin; rw [← HW13.out, ← HWZ.out]; refine wpList_appS (by rfl) (.tmp 78) (.tmp 80) 39 rfl w4.heap.size 59 i1 (.agg #[.string ⟨#[]⟩, .slice none 0 0, .int .u64 0, .int .u64 0]) 4 56 Tryz.underlying39 UI.out UZ0.out rfl (by decide) UZ1.out UZ2.out (by decide) (.slice b i2 d) i2 _ rfl HOW.out (some ⟨w12.heap.size, 0, none⟩) 1 1 (nc [⟨⟨strOf kv, vv, x3, x4⟩, va, vc⟩]) rfl HV.out rfl (nc_one _) (fun h => by cases h) (by omega) HFZ.out.size ?_)
            intro a3 c3 wn happ
            obtain ⟨g1, g2, g3, g4⟩ := HOB.out.app (Y := [⟨⟨strOf kv, vv, x3, x4⟩, va, vc⟩]) HY.out HOK.out rfl (fun x hx => Nat.lt_of_lt_of_le (HFF.out x hx) (by have h1 := HF3.out.size; have h2 := HFZ.out.size; omega)) happ
            have hro : ∀ x ∈ blk b, w4.heap.size ≤ x := fun x hx => (HOB.out.blk_lt x hx).1
            have HXN : Hid (i2 + 1 = (Y ++ [(⟨⟨strOf kv, vv, x3, x4⟩, va, vc⟩ : Nx)]).length) := Lib.hid g4
            have HON := Lib.hid g1
            have HRN := Lib.hid (HRZ.out.keep g2 (fun x hx => by have := hro x hx; have := HBW.out; omega) (fun hm => by have h1 := hro rb hm; have h2 := HF3.out.size; have h3 := HFF.out rb (List.mem_cons_of_mem _ HRF.out); omega))
            have HEN : Hid (o5.bind (pNs (i2 + 1)) = od.map (Prod.mk (nds (Y ++ [⟨⟨strOf kv, vv, x3, x4⟩, va, vc⟩])))) := Lib.hid (by rw [show nds (Y ++ [⟨⟨strOf kv, vv, x3, x4⟩, va, vc⟩]) = nds Y ++ [⟨strOf kv, vv, x3, x4⟩] by simp [nds]]; exact pNs_next HE2.out HA.out HB.out HC.out HDD.out)
            have HFN : Hid (Frm [rb] w4 wn) := Lib.hid (HFZ.out.trans g2 (fun _ h => h) (fun x hx => .inr (hro x hx)))
            clear happ g1 g2 g3 g4 hro yc zc q0 q1 q2
            go_wp2
            go_roundw
            case rel => exact ⟨i2 + 1, a3, c3, _, od, by omega, rfl, by go_num, HXN, HON, HRN, HEN, HFN⟩
            case measure => simp [intOf]; omega
          · have HEY : Hid (o5.bind (pNs m2) = oj.map (Prod.mk (nds Y))) := Lib.hid (by
              by_cases hlt : i2 < m2
              · have h0 : oj = none := by
                  cases oj with
                  | none => rfl
                  | some l => exact absurd ⟨hlt, hcode.2 (by simp)⟩ hgo
                have h1 := HE2.out
                rw [h0] at h1 ⊢
                have := pNs_fail h1 (m2 - i2)
                rw [show i2 + (m2 - i2) = m2 by omega] at this
                exact this
              · obtain rfl : i2 = m2 := by omega
                exact HE2.out)
            have hgc : (¬ i2 < m2) ∨ (i2 < m2 ∧ ((code2 : Int) == 0) = false) := by
              by_cases hlt : i2 < m2
              · exact .inr ⟨hlt, by rw [beq_eq_false_iff_ne]; intro h; exact hgo ⟨hlt, by omega⟩⟩
              · exact .inl hlt
            clear hgo hcode
            have PS : o.bind pS = oj.map (Prod.mk ⟨now, nds Y, last, X⟩) := pS_steps H1.out H2.out H3.out HEX.out H5.out HEY.out
            have HFW : Hid (Frm [rb] w wr) := Lib.hid ((HF3.out.trans HF4.out (U := [rb]) (fun _ h => h) (fun x hx => .inl hx)).trans HFJ.out (fun _ h => h) (fun x hx => .inl hx))
            have NOK : Hid (¬ (oj = some [] ∧ pOk ⟨now, nds Y, last, X⟩) → ∀ z, Frm [rb] w z → Q (.returned (.bool false)) z) := Lib.hid fun hno z hz => by
              rw [HQ.out]
              refine .inr ⟨?_, rfl, hz⟩
              rw [PS]
              cases oj with
              | none => rfl
              | some l =>
                cases l with
                | cons y l => rfl
                | nil => show (if pOk _ then some _ else none) = none; rw [if_neg (fun h => hno ⟨rfl, h⟩)]
            have YOK : Hid (oj = some [] → pOk ⟨now, nds Y, last, X⟩ → ∀ z, Ds z B q F ⟨now, nds Y, last, X⟩ → Frm [q, rb] w z → Q (.returned (.bool true)) z) := Lib.hid fun h0 hp z hd hz => by
              rw [HQ.out]
              refine .inl ⟨_, ?_, rfl, hd, hz⟩
              rw [PS, h0]
              show (if pOk _ then some _ else none) = some _
              rw [if_pos hp]
            have HFL : Hid (∀ x ∈ q :: F, x < wr.heap.size) := Lib.hid fun x hx => Nat.lt_of_lt_of_le (HFF.out x hx) HFW.out.size
            have HOX := Lib.hid (HO4.out.keep (F' := q :: F) HFJ.out (fun x hx => by simp at hx; subst hx; exact .inl (List.mem_cons_of_mem _ HRF.out)) (fun x hx => .inl hx))
            have HBO := Lib.hid (bookOf_any (w := wr) (n := i) (last := last) (F := q :: F) (HOX.out.sl.keep (S := []) (F' := []) (Frm.refl _ _) (by simp) (by simp)) HOX.out.caps.2.2 HX.out (by omega) HLS.out HFL.out)
            clear PS
            rcases hgc with hlt | ⟨hlt, hcb⟩
            all_goals
              go_wp2_with fail
              (with_reducible refine HBO.out.mono ?_)
              rintro e wb (⟨hright, r, ra, rc, rfl, hrb, hfb⟩ | ⟨hright, rfl, hfb⟩)
              · have HRB := Lib.hid (HRJ.out.keep hfb (by simp) (by simp))
                have HRT := Lib.hid hright
                have HRBK := Lib.hid hrb
                have HFB := Lib.hid hfb
                clear k1 hlt hright hrb hfb
                go_wp2_with fail
                (with_reducible refine (rs_end HRB.out).mono ?_)
                rintro e wc ⟨ec, rfl, hec, hfc⟩
                have HEC := Lib.hid hec
                have HFC := Lib.hid (HFB.out.trans hfc (U := [rb]) (by simp) (fun x hx => .inl hx))
                have HFC2 := Lib.hid hfc
                clear hec hfc
                by_cases hz : ec = 0
                · subst hz
                  have HOJ : Hid (oj = some []) := Lib.hid (HEC.out.1 rfl)
                  have HNC := Lib.hid (HN2.out.keep (F' := q :: F) HFC.out (fun x hx => by simp at hx; subst hx; exact .inl (List.mem_cons_of_mem _ HRF.out)) (fun x hx => .inl hx))
                  have HLD := Lib.hid (rloads_any b i2 d Y (q :: F) wc HNC.out.nl HY.out (by omega))
                  go_wp2_with fail
                  (with_reducible refine HLD.out.mono ?_)
                  rintro e wl ⟨⟨bl, rfl, hbl⟩, hfl⟩
                  have HBL := Lib.hid hbl
                  have HFLL := Lib.hid hfl
                  have HFWL := Lib.hid ((HFW.out.trans HFC.out (U := [rb]) (fun _ h => h) (fun x hx => .inl hx)).trans hfl (U := [rb]) (fun _ h => h) (by simp))
                  clear hbl hfl
                  cases bl
                  · have HE := Lib.hid (NOK.out (fun h => by have := HBL.out.2 h.2.2.2; simp at this) wl HFWL.out)
                    clear HBO
                    go_wp2
                    exact HE.out
                  · by_cases hnow : now ≤ 1099511627776
                    · have hd1 : decide ((1099511627776 : Int) < (now : Int)) = false := decide_eq_false (by omega)
                      have hd2 : decide (1099511627776 < now) = false := decide_eq_false (by omega)
                      have HPK : Hid (pOk ⟨now, nds Y, last, X⟩) := Lib.hid ⟨hnow, HRT.out, HBL.out.1 rfl⟩
                      have hql : q < w.heap.size := HFF.out q (by simp)
                      have hqn : q ∉ [rb] := by simpa using HQR.out
                      obtain ⟨ta0, tn0, tc0, ba0, bn0, bc0, g1, g3, _⟩ := HD.out.cells (fun x hx => HFF.out x (List.mem_cons_of_mem _ hx))
                      have b0 : wl.cell? ⟨q, 0, none⟩ = some (.int .u64 (S.now : Nat)) := (HFWL.out.cell (p := ⟨q, 0, none⟩) hql hqn).trans HD.out.n0
                      have b1 : wl.cell? ⟨q, 1, none⟩ = some (.slice ta0 tn0 tc0) := (HFWL.out.cell (p := ⟨q, 1, none⟩) hql hqn).trans g1
                      have b2 : wl.cell? ⟨q, 2, none⟩ = some (.int .u64 (S.last : Nat)) := (HFWL.out.cell (p := ⟨q, 2, none⟩) hql hqn).trans HD.out.c2
                      have b3 : wl.cell? ⟨q, 3, none⟩ = some (.slice ba0 bn0 bc0) := (HFWL.out.cell (p := ⟨q, 3, none⟩) hql hqn).trans g3
                      have f0 : ∀ j, wl.frozen? ⟨q, j, none⟩ = false := fun j => (HFWL.out.frozen (p := ⟨q, j, none⟩) hql hqn).trans (HD.out.free j)
                      have f00 := f0 0
                      have f01 := f0 1
                      have f02 := f0 2
                      have f03 := f0 3
                      have hrn : r ∉ [rb] := by
                        intro h
                        simp at h
                        exact HRBK.out.out (by rw [h]; exact List.mem_cons_of_mem _ HRF.out)
                      have hrW := ((HFC2.out.trans HFLL.out (U := [rb]) (fun _ h => h) (by simp) : Frm [rb] wb wl)).whole HRBK.out.book hrn
                      have r0 := hrW.cell 0
                      have r1 := hrW.cell 1
                      rw [← HX.out] at r1
                      simp at r0 r1
                      have hqr2 : q ≠ r := fun h => HRBK.out.out (by rw [← h]; exact List.mem_cons_self)
                      have r0s : (wl.setCell ⟨q, 0, none⟩ (.int .u64 (now : Nat))).cell? ⟨r, 0, none⟩ = some (.int .u64 (last : Nat)) := (World.cell?_setCell_other _ _ _ _ (by simp)).trans r0
                      have r1s : (wl.setCell ⟨q, 0, none⟩ (.int .u64 (now : Nat))).cell? ⟨r, 1, none⟩ = some (.slice ra i rc) := (World.cell?_setCell_other _ _ _ _ (by simp)).trans r1
                      obtain ⟨wo, hwo⟩ : ∃ wo, wo = (((wl.setCell ⟨q, 0, none⟩ (.int .u64 (now : Nat))).setCell ⟨q, 2, none⟩ (.int .u64 (last : Nat))).setCell ⟨q, 3, none⟩ (.slice ra i rc)).setCell ⟨q, 1, none⟩ (.slice b i2 d) := ⟨_, rfl⟩
                      have hfo : Frm [q] wl wo := by rw [hwo]; exact ((((Frm.refl _ _).setCell (.inl (by simp)) _).setCell (.inl (by simp)) _).setCell (.inl (by simp)) _).setCell (.inl (by simp)) _
                      have x0 : wo.cell? ⟨q, 0, none⟩ = some (.int .u64 (now : Nat)) := by rw [hwo, World.cell?_setCell_other _ _ _ _ (by simp), World.cell?_setCell_other _ _ _ _ (by simp), World.cell?_setCell_other _ _ _ _ (by simp), World.cell?_setCell_same _ _ _ b0]
                      have x2 : wo.cell? ⟨q, 2, none⟩ = some (.int .u64 (last : Nat)) := by rw [hwo, World.cell?_setCell_other _ _ _ _ (by simp), World.cell?_setCell_other _ _ _ _ (by simp), World.cell?_setCell_same _ _ _ ((World.cell?_setCell_other _ _ _ _ (by simp)).trans b2)]
                      have x3 : wo.cell? ⟨q, 3, none⟩ = some (.slice ra i rc) := by rw [hwo, World.cell?_setCell_other _ _ _ _ (by simp), World.cell?_setCell_same _ _ _ ((World.cell?_setCell_other _ _ _ _ (by simp)).trans ((World.cell?_setCell_other _ _ _ _ (by simp)).trans b3))]
                      have x1 : wo.cell? ⟨q, 1, none⟩ = some (.slice b i2 d) := by rw [hwo, World.cell?_setCell_same _ _ _ ((World.cell?_setCell_other _ _ _ _ (by simp)).trans ((World.cell?_setCell_other _ _ _ _ (by simp)).trans ((World.cell?_setCell_other _ _ _ _ (by simp)).trans b1)))]
                      have hfz : ∀ j, wo.frozen? ⟨q, j, none⟩ = false := fun j => by
                        rw [hwo, World.frozen?_setCell, World.frozen?_setCell, World.frozen?_setCell, World.frozen?_setCell]
                        exact f0 j
                      have hBq : B ≤ q := HD.out.hp
                      have hNO : NOwn wo B 59 (q :: F) b d Y := by
                        have h1 := (HNC.out.keep (F' := q :: F) HFLL.out (by simp) (fun x hx => .inl hx)).keep (F' := q :: F) hfo (fun x hx => .inl (by simp at hx; simp [hx])) (fun x hx => .inl hx)
                        exact ⟨own_base h1.own (by have h2 := HF3.out.size; have h3 := HF4.out.size; omega), h1.ok, h1.away⟩
                      have hSO : SOwn wo B 132 (q :: F) ra rc X := by
                        have h1 := (((HRBK.out.row.keep (F' := q :: F) (Frm.refl [] _) (by simp) (fun x hx => .inl (List.mem_cons_of_mem _ hx))).keep (F' := q :: F) HFC2.out (fun x hx => by simp at hx; subst hx; exact .inl (List.mem_cons_of_mem _ HRF.out)) (fun x hx => .inl hx)).keep (F' := q :: F) HFLL.out (by simp) (fun x hx => .inl hx)).keep (F' := q :: F) hfo (fun x hx => .inl (by simp at hx; simp [hx])) (fun x hx => .inl hx)
                        exact ⟨own_base h1.own (by have := HFW.out.size; omega), h1.fits, h1.away⟩
                      have hds : Ds wo B q F ⟨now, nds Y, last, X⟩ := ⟨x0, ⟨b, d, Y, ⟨by rw [← HY.out]; exact x1, hfz, hNO, hBq, HD.out.out, by have h := (HBL.out.1 rfl).1; rw [nds_len'] at h; exact h⟩, ⟨(HBL.out.1 rfl).good8.srt, List.Perm.refl _⟩⟩, ra, rc, ⟨x2, by show wo.cell? ⟨q, 3, none⟩ = some (.slice ra X.length rc); rw [← HX.out]; exact x3, hfz, hSO, hBq, HD.out.out, HRBK.out.few, HLS.out⟩⟩
                      have HE := Lib.hid (YOK.out HOJ.out HPK.out wo hds (HFWL.out.trans hfo (fun x hx => by simp at hx; simp [hx]) (fun x hx => .inl (by simp at hx; simp [hx]))))
                      have HWO := Lib.hid hwo
                      clear HBO hqr2 hql hqn g1 g3 f0 hrn hrW hwo hfo x0 x1 x2 x3 hfz hBq hNO hSO hds hnow
                      go_wp2
                      rw [← HWO.out]
                      exact HE.out
                    · have hd1 : decide ((1099511627776 : Int) < (now : Int)) = true := decide_eq_true (by omega)
                      have hd2 : decide (1099511627776 < now) = true := decide_eq_true (by omega)
                      have HE := Lib.hid (NOK.out (fun h => hnow h.2.1) wl HFWL.out)
                      clear HBO hnow
                      go_wp2
                      exact HE.out
                · have hne : ((ec : Int) != 0) = true := by rw [bne_iff_ne]; omega
                  have HE := Lib.hid (NOK.out (fun h => hz (HEC.out.2 h.1)) wc (HFW.out.trans HFC.out (fun _ h => h) (fun x hx => .inl hx)))
                  clear HBO hz
                  go_wp2
                  exact HE.out
              · have HRB := Lib.hid (HRJ.out.keep hfb (by simp) (by simp))
                have HFB := Lib.hid hfb
                have HNR := Lib.hid hright
                clear k1 hlt hright hfb HBO
                go_wp2_with fail
                (with_reducible refine (rs_end HRB.out).mono ?_)
                rintro e wc ⟨ec, rfl, hec, hfc⟩
                clear hec
                have HE := Lib.hid (NOK.out (fun h => HNR.out h.2.2.1) wc ((HFW.out.trans HFB.out (U := [rb]) (fun _ h => h) (by simp)).trans hfc (fun _ h => h) (fun x hx => .inl hx)))
                clear hfc
                by_cases hz : ec = 0
                · subst hz
                  go_wp2
                  exact HE.out
                · have hne : ((ec : Int) != 0) = true := by rw [bne_iff_ne]; omega
                  clear hz
                  go_wp2
                  exact HE.out
end Go.Proofs.YtomgiockelhfiaaGreat
