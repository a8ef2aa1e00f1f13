/- Contract of the law's Awake. -/
import Derived.Test.YtbdgmpfdcmmfhaaDoorBnName
namespace Go.Proofs.YtbdgmpfdcmmfhaaDoor
open Go.RowKit
set_option maxRecDepth 100000

theorem splC_fresh : splC (Bf []) (16384 : Int) = 0 := by
  unfold splC
  rw [if_neg (by decide), if_neg (by rw [Bf_true]; simp), allM_Bf bm_nil]
  rfl
theorem Bf_fresh : splF (Bf []) (16384 : Int) = Bf [16384] := by
  unfold splF
  rw [if_pos splC_fresh]
  funext t
  unfold Bf
  by_cases h : t = 16384
  · subst h; rfl
  · rw [if_neg (by simpa using h)]
    simp [h]
theorem Bf_inj {X Y : List Nat} (hx : BmOk X) (hy : BmOk Y) (h : Bf X = Bf Y) : X = Y := by
  have := allM_Bf hx
  rw [h, allM_Bf hy] at this
  simpa using this.symm
theorem ok1 : BmOk [16384] := ⟨List.pairwise_singleton _ _, by simp, by simp⟩
theorem of5 : OfP (Bf [16384]) 5 0 16384 := by
  have := ofP_next (n := 5) (k := 0) ok1 (by simp) (fun t ht => by omega) (by simp)
  simpa using this
set_option maxHeartbeats 1000000 in
theorem awake16_any (w : World) (h : Bt w) : Calls Tryd.prog 8 #[] w fun e w' => e = .returned (.bool true) ∧ Frm [] w w' := by
  have EN : strOf (nameL 0 16384) = ⟨#[48, 48, 48, 48, 45, 52, 48, 48, 48]⟩ := by decide
  have HNAME : Hid (∀ z, Frm [] w z → Calls Tryd.prog 22 #[.int .i64 0, .int .i64 16384] z fun e w' => e = .returned (.string ⟨#[48, 48, 48, 48, 45, 52, 48, 48, 48]⟩) ∧ Frm [] z w') := Lib.hid (fun z hz => by
    have := bname_any 0 16384 (by omega) (by omega) (h.keep hz (by simp))
    rw [EN] at this
    exact this)
  clear h EN
  go_enter Tryd.func8, Tryd.ntmps8
  go_wp2_with fail
  (with_reducible refine (bmnew_any w).mono ?_)
  rintro e w1 ⟨rfl, hb, hf⟩
  obtain ⟨g, hg⟩ : ∃ g, g = w.heap.size := ⟨_, rfl⟩
  rw [← hg] at hb ⊢
  have HG := Lib.hid hg
  have F1 := Lib.hid hf
  have HS := Lib.hid (bmsplit_any 16384 hb (by decide))
  rw [splC_fresh, Bf_fresh] at HS
  clear hg hf hb
  go_wp2_with fail
  (with_reducible refine HS.out.mono ?_)
  rintro e w2 ⟨rfl, ⟨a', c', L', hb2, hbf, _⟩, hf2⟩
  obtain rfl := Bf_inj hb2.ok ok1 hbf
  have HO := Lib.hid (bmof_any 5 hb2)
  have F2 : Hid (Frm [] w w2) := Lib.hid (F1.out.trans hf2 (by simp) (fun x hx => .inr (by simp at hx; have := HG.out; omega)))
  clear hb2 hf2 hbf
  go_wp2_with fail
  (with_reducible refine HO.out.mono ?_)
  rintro e w3 ⟨hz, (⟨hbad, _⟩ | ⟨n, lo, hi, hn, hn6, hofp, rfl⟩)⟩
  · exact absurd hbad (by omega)
  obtain rfl : w2 = w3 := hz.symm
  obtain rfl : n = 5 := by omega
  obtain ⟨rfl, rfl⟩ := hofp.uniq of5
  clear hofp hn hn6
  go_wp2_with fail
  (with_reducible refine (HNAME.out _ F2.out).mono ?_)
  rintro e w4 ⟨rfl, hf4⟩
  have F4 : Hid (Frm [] w w4) := Lib.hid (F2.out.trans hf4 (by simp) (by simp))
  clear hf4
  go_wp2
  go_ret
  exact ⟨rfl, F4.out⟩
end Go.Proofs.YtbdgmpfdcmmfhaaDoor
