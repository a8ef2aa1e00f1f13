/- Contracts of the document's Drop, Fence. -/
import Derived.Test.YtamcandcfainfaaGreatMX
import Derived.Test.YtamcandcfainfaaGreatZRdWrite
import Derived.Test.YtamcandcfainfaaGreatZRdOf
import Derived.Test.YtamcandcfainfaaGreatZRlHead
namespace Go.Proofs.YtamcandcfainfaaGreat
open Go.RowKit
set_option maxRecDepth 100000
theorem recW_lt8 (k i : Nat) : ∀ x ∈ recW k i, x < 256 := by
  intro x hx
  unfold recW at hx
  rcases List.mem_append.1 hx with h | h <;> exact be_lt _ _ x h
section
variable {w : World} {B : Nat} {G W : List Nat} {q m : Nat} {S : Nd9} {l : List Nat} {room mm : Nat}
/-- What a call of the document's node answers and leaves. -/
def RdEnd (w : World) (B : Nat) (G W : List Nat) (q m : Nat) (room mm : Nat) (v : Value) (S' : Nd9) (l' : List Nat) (e : Ending) (w' : World) : Prop := e = .returned v ∧ RdTo w w' B G W q m S' l' room mm
set_option maxHeartbeats 4000000 in
theorem rddrop_any (i : Nat) (hi : i < N64) (h : Rd w B G W q m S l room mm) (hG : ∀ x ∈ G, x < w.heap.size) (hm : mm ≤ 100000) :
    Calls Tryz.prog 14 #[.pointer (some ⟨q, 0, none⟩), .int .u64 (i : Nat)] w (RdEnd w B G W q m room (mm + 3) (.int .i64 (oE l room (dropO S i) (recW 3 i) : Nat)) (oS S l room (dropO S i) (recW 3 i) i dropL) (oL l room (dropO S i) (recW 3 i))) := by
  obtain ⟨Q, hQ⟩ : ∃ Q, Q = RdEnd w B G W q m room (mm + 3) (.int .i64 (oE l room (dropO S i) (recW 3 i) : Nat)) (oS S l room (dropO S i) (recW 3 i) i dropL) (oL l room (dropO S i) (recW 3 i)) := ⟨_, rfl⟩
  rw [← hQ]
  have SAME : Hid (∀ k : Nat, dropO S i = some k → ∀ w', RdTo w w' B G W q m S l room (mm + 3) → Q (.returned (.int .i64 (k : Nat))) w') := Lib.hid fun k hk w' ht => by
    rw [hQ, hk, oS_some, oL_some]
    exact ⟨rfl, ht⟩
  have WRITE : Hid (dropO S i = none → ∀ w1 W1 w2 a cap, Rd w1 B G W1 q m S l room (mm + 1) → Frm W w w1 → (∀ x ∈ W1, x ∈ W ∨ w.heap.size ≤ x) → Rw w1 w2 a cap (recW 3 i) → Calls Tryz.prog 34 #[.pointer (some ⟨q, 0, none⟩), .slice a (recW 3 i).length cap] w2 fun e w' => ∃ n : Nat, e = .returned (.int .i64 (n : Nat)) ∧ Q e w') := Lib.hid fun hn w1 W1 w2 a cap h1 hf hx hw => by
    have hg : (S i).gone = false := by
      unfold dropO at hn
      by_cases h0 : i = 0
      · rw [if_pos h0] at hn; cases hn
      · rw [if_neg h0] at hn
        by_cases h1 : (S i).gone = true
        · rw [if_pos h1] at hn; cases hn
        · simpa using h1
    refine (rdwrite_any (say1_of (say_D hi hg)) (h1.here hw.frm) (fun y hy => Nat.lt_of_lt_of_le (hG y hy) (hf.trans hw.frm (U := W) (fun x hx => hx) (by simp)).size) (by omega) hw (recW_lt8 3 i) (by rw [recW_len]; omega) (fun x hx => (h1.lt x hx).2.1)).mono ?_
    rintro e w' ⟨rfl, ht⟩
    refine ⟨_, rfl, ?_⟩
    rw [hQ]
    refine ⟨by rw [hn]; rfl, ?_⟩
    rw [hn, oS_none, oL_none]
    exact RdTo.then (hf.trans hw.frm (fun x hx => hx) (by simp)) hx ht
  have HOF := Lib.hid (rdof_any i hi h hG (by omega))
  have H := Lib.hid h
  clear h hG hQ
  by_cases h0 : i = 0
  · have HE := Lib.hid (SAME.out 2 (by unfold dropO; rw [if_pos h0]) w (RdTo.same H.out (Frm.refl _ _) (by omega)))
    have e0 : ((i : Int) == 0) = true := by rw [beq_iff_eq]; omega
    clear SAME WRITE HOF h0
    go_enter Tryz.func14, Tryz.ntmps14
    go_wp2
    exact HE.out
  · have e0 : ((i : Int) == 0) = false := by rw [beq_eq_false_iff_ne]; omega
    have H0 := Lib.hid h0
    clear h0
    go_enter Tryz.func14, Tryz.ntmps14
    go_wp2_with fail
    (with_reducible refine HOF.out.mono ?_)
    rintro e w1 ⟨k, g, W1, a, n, c, X, rn, rc, rfl, hrd, hf1, hx1, h9⟩
    have b0 := h9.box
    have b2 := h9.gone
    have lt := h9.lt
    have few : rn ≤ 1000000 := by have := h9.few.1; omega
    obtain ⟨gn, hgn⟩ : ∃ gn, gn = (S i).gone := ⟨_, rfl⟩
    rw [← hgn] at b2
    have HRD := Lib.hid hrd
    have HF1 := Lib.hid hf1
    have HX1 := Lib.hid hx1
    have HGN := Lib.hid hgn
    clear hrd hf1 hx1 h9 hgn HOF
    cases gn with
    | true =>
      have HE := Lib.hid (SAME.out 0 (by unfold dropO; rw [if_neg H0.out, if_pos HGN.out.symm]) w1 ⟨W1, HRD.out.more (by omega), HF1.out, HX1.out⟩)
      clear SAME WRITE
      go_wp2
      exact HE.out
    | false =>
      have HHD := Lib.hid (rhead_any w1 3 i (by omega) hi)
      rw [show ((3 : Nat) : Int) = 3 from rfl] at HHD
      have HN : Hid (dropO S i = none) := Lib.hid (by unfold dropO; rw [if_neg H0.out, if_neg (by rw [← HGN.out]; simp)])
      clear SAME
      go_wp2_with fail
      (with_reducible refine HHD.out.mono ?_)
      rintro e w2 ⟨ha, hc, rfl, hrw⟩
      have HWR := Lib.hid (WRITE.out HN.out w1 W1 w2 ha hc HRD.out HF1.out HX1.out hrw)
      clear hrw WRITE HHD b0 b2
      generalize (recW 3 i).length = rwn at HWR ⊢
      go_wp2_with fail
      (with_reducible refine HWR.out.mono ?_)
      rintro e w3 ⟨en, rfl, hq⟩
      have HQ := Lib.hid hq
      clear hq HWR
      go_wp2
      exact HQ.out
set_option maxHeartbeats 4000000 in
theorem rdfence_any (i : Nat) (hi : i < N64) (h : Rd w B G W q m S l room mm) (hG : ∀ x ∈ G, x < w.heap.size) (hm : mm ≤ 100000) :
    Calls Tryz.prog 13 #[.pointer (some ⟨q, 0, none⟩), .int .u64 (i : Nat)] w (RdEnd w B G W q m room (mm + 3) (.tuple #[.int .u64 (fenN S l room i : Nat), .int .i64 (oE l room (fenO S i) (recW 2 i) : Nat)]) (oS S l room (fenO S i) (recW 2 i) i (fenL (S i))) (oL l room (fenO S i) (recW 2 i))) := by
  obtain ⟨Q, hQ⟩ : ∃ Q, Q = RdEnd w B G W q m room (mm + 3) (.tuple #[.int .u64 (fenN S l room i : Nat), .int .i64 (oE l room (fenO S i) (recW 2 i) : Nat)]) (oS S l room (fenO S i) (recW 2 i) i (fenL (S i))) (oL l room (fenO S i) (recW 2 i)) := ⟨_, rfl⟩
  rw [← hQ]
  have SAME : Hid (∀ k : Nat, fenO S i = some k → ∀ w', RdTo w w' B G W q m S l room (mm + 3) → Q (.returned (.tuple #[.int .u64 ((if k = 0 then (S i).sure else 0 : Nat) : Nat), .int .i64 (k : Nat)])) w') := Lib.hid fun k hk w' ht => by
    rw [hQ]
    unfold fenN
    rw [hk, oS_some, oL_some]
    exact ⟨rfl, ht⟩
  have WRITE : Hid (fenO S i = none → ∀ w1 W1 w2 a cap, Rd w1 B G W1 q m S l room (mm + 1) → Frm W w w1 → (∀ x ∈ W1, x ∈ W ∨ w.heap.size ≤ x) → Rw w1 w2 a cap (recW 2 i) → Calls Tryz.prog 34 #[.pointer (some ⟨q, 0, none⟩), .slice a (recW 2 i).length cap] w2 fun e w' => ∃ n : Nat, e = .returned (.int .i64 (n : Nat)) ∧ Frm W1 w2 w' ∧ ∀ z, Frm [] w' z → Q (.returned (.tuple #[.int .u64 ((if n = 0 then (S i).sure else 0 : Nat) : Nat), .int .i64 (n : Nat)])) z) := Lib.hid fun hn w1 W1 w2 a cap h1 hf hx hw => by
    have hg : (S i).gone = false := by
      unfold fenO at hn
      by_cases h0 : i = 0
      · rw [if_pos h0] at hn; cases hn
      · rw [if_neg h0] at hn
        by_cases h1 : (S i).gone = true
        · rw [if_pos h1] at hn; cases hn
        · simpa using h1
    refine (rdwrite_any (say1_of (say_F hi hg)) (h1.here hw.frm) (fun y hy => Nat.lt_of_lt_of_le (hG y hy) (hf.trans hw.frm (U := W) (fun x hx => hx) (by simp)).size) (by omega) hw (recW_lt8 2 i) (by rw [recW_len]; omega) (fun x hx => (h1.lt x hx).2.1)).mono ?_
    rintro e w' ⟨rfl, ht⟩
    have hfw : Frm W1 w2 w' := by obtain ⟨_, _, k2, _⟩ := ht; exact k2
    refine ⟨_, rfl, hfw, fun z hz => ?_⟩
    rw [hQ]
    unfold fenN
    rw [hn, oS_none, oL_none]
    refine ⟨rfl, ?_⟩
    obtain ⟨W', k1, k2, k3⟩ := RdTo.then (hf.trans hw.frm (fun x hx => hx) (by simp)) hx ht
    exact ⟨W', k1.here hz, k2.trans hz (fun x hx => hx) (by simp), k3⟩
  have HOF := Lib.hid (rdof_any i hi h hG (by omega))
  have H := Lib.hid h
  clear h hG hQ
  by_cases h0 : i = 0
  · have HE : Hid (Q (.returned (.tuple #[.int .u64 0, .int .i64 2])) w) := Lib.hid (by have h := SAME.out 2 (by unfold fenO; rw [if_pos h0]) w (RdTo.same H.out (Frm.refl _ _) (by omega)); rw [if_neg (by decide)] at h; exact h)
    have e0 : ((i : Int) == 0) = true := by rw [beq_iff_eq]; omega
    clear SAME WRITE HOF h0
    go_enter Tryz.func13, Tryz.ntmps13
    go_wp2
    exact HE.out
  · have e0 : ((i : Int) == 0) = false := by rw [beq_eq_false_iff_ne]; omega
    have H0 := Lib.hid h0
    clear h0
    go_enter Tryz.func13, Tryz.ntmps13
    go_wp2_with fail
    (with_reducible refine HOF.out.mono ?_)
    rintro e w1 ⟨k, g, W1, a, n, c, X, rn, rc, rfl, hrd, hf1, hx1, h9⟩
    have b0 := h9.box
    obtain ⟨idn, c0⟩ := h9.idc
    have b1 := h9.fen
    have b2 := h9.gone
    have b3 := h9.sure
    have b4 := h9.items
    have lt := h9.lt
    have few : rn ≤ 1000000 := by have := h9.few.1; omega
    obtain ⟨gn, hgn⟩ : ∃ gn, gn = (S i).gone := ⟨_, rfl⟩
    obtain ⟨fn, hfn⟩ : ∃ fn, fn = (S i).fen := ⟨_, rfl⟩
    obtain ⟨su, hsu⟩ : ∃ su, su = (S i).sure := ⟨_, rfl⟩
    rw [← hgn] at b2
    rw [← hfn] at b1
    rw [← hsu] at b3 SAME WRITE
    have HRD := Lib.hid hrd
    have HF1 := Lib.hid hf1
    have HX1 := Lib.hid hx1
    have HGN := Lib.hid hgn
    have HFN := Lib.hid hfn
    have H9 := Lib.hid h9
    clear hrd hf1 hx1 h9 hgn hfn hsu HOF
    cases gn with
    | true =>
      have HE : Hid (∀ z, RdTo w z B G W q m S l room (mm + 3) → Q (.returned (.tuple #[.int .u64 0, .int .i64 24])) z) := Lib.hid fun z hz => by have h := SAME.out 24 (by unfold fenO; rw [if_neg H0.out, if_pos HGN.out.symm]) z hz; rw [if_neg (by decide)] at h; exact h
      have HT : Hid (∀ z, Frm [] w1 z → RdTo w z B G W q m S l room (mm + 3)) := Lib.hid fun z hz => ⟨W1, (HRD.out.here hz).more (by omega), HF1.out.trans hz (fun x hx => hx) (by simp), HX1.out⟩
      clear SAME WRITE
      go_wp2
      exact HE.out _ (HT.out _ ((Frm.refl _ _).alloc _))
    | false =>
      cases fn with
      | true =>
        have HE : Hid (∀ z, RdTo w z B G W q m S l room (mm + 3) → Q (.returned (.tuple #[.int .u64 (su : Nat), .int .i64 0])) z) := Lib.hid fun z hz => by have h := SAME.out 0 (by unfold fenO; rw [if_neg H0.out, if_neg (by rw [← HGN.out]; simp), if_pos HFN.out.symm]) z hz; rw [if_pos rfl] at h; exact h
        have HT : Hid (∀ z, Frm [] w1 z → RdTo w z B G W q m S l room (mm + 3)) := Lib.hid fun z hz => ⟨W1, (HRD.out.here hz).more (by omega), HF1.out.trans hz (fun x hx => hx) (by simp), HX1.out⟩
        clear SAME WRITE
        go_wp2
        exact HE.out _ (HT.out _ ((Frm.refl _ _).alloc _))
      | false =>
        obtain ⟨w2, hw2⟩ : ∃ w2, w2 = w1.alloc (.cells #[.int .u64 (idn : Nat), .bool false, .bool false, .int .u64 (su : Nat), .slice a n c] 82) := ⟨_, rfl⟩
        obtain ⟨lb, hlb⟩ : ∃ lb, lb = w1.heap.size := ⟨_, rfl⟩
        have hWL := Whole.made w1 82 #[.int .u64 (idn : Nat), .bool false, .bool false, .int .u64 (su : Nat), .slice a n c]
        rw [← hw2, ← hlb] at hWL
        have hf2 : Frm [] w1 w2 := by rw [hw2]; exact (Frm.refl _ _).alloc _
        have HHD := Lib.hid (rhead_any w2 2 i (by omega) hi)
        rw [show ((2 : Nat) : Int) = 2 from rfl] at HHD
        have HN : Hid (fenO S i = none) := Lib.hid (by unfold fenO; rw [if_neg H0.out, if_neg (by rw [← HGN.out]; simp), if_neg (by rw [← HFN.out]; simp)])
        have HRD2 := Lib.hid (HRD.out.here hf2)
        have HF12 := Lib.hid (HF1.out.trans hf2 (U := W) (fun x hx => hx) (by simp))
        have hlbW : lb ∉ W1 := fun hm' => by have := (HRD.out.lt lb hm').2.1; omega
        have HLW := Lib.hid hlbW
        have HW2 := Lib.hid hw2
        have HLB := Lib.hid hlb
        have HWL := Lib.hid hWL
        clear SAME hw2 hlb hWL hf2 hlbW
        go_wp2_with fail
        rw [← HW2.out, ← HLB.out]
        clear b0 b2 b1 b3 b4 c0
        (with_reducible refine HHD.out.mono ?_)
        rintro e w3 ⟨ha, hc, rfl, hrw⟩
        have HWR := Lib.hid (WRITE.out HN.out w2 W1 w3 ha hc HRD2.out HF12.out HX1.out hrw)
        have HWL3 := Lib.hid (hrw.frm.whole HWL.out (by simp))
        clear hrw WRITE HHD
        generalize (recW 2 i).length = rwn at HWR ⊢
        go_wp2_with fail
        (with_reducible refine HWR.out.mono ?_)
        rintro e w4 ⟨en, rfl, hf4, hq⟩
        have HQ := Lib.hid hq
        have hs4 := (hf4.whole HWL3.out HLW.out).cell 3
        simp at hs4
        clear hq HWR hf4
        by_cases hen : en = 0
        · have e3 : ((en : Int) != 0) = false := by rw [hen]; rfl
          have HQ2 := HQ.out
          rw [if_pos hen, hen] at HQ2
          have HQ3 := Lib.hid HQ2
          clear HQ2 hen
          go_wp2
          exact HQ3.out _ (Frm.refl _ _)
        · have e3 : ((en : Int) != 0) = true := by rw [bne_iff_ne]; omega
          have HQ2 := HQ.out
          rw [if_neg hen] at HQ2
          have HQ3 := Lib.hid HQ2
          clear HQ2 hen
          go_wp2
          exact HQ3.out _ (Frm.refl _ _)
end
end Go.Proofs.YtamcandcfainfaaGreat
