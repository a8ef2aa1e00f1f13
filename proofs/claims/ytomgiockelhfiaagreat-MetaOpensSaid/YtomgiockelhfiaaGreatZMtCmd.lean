/- Contracts of the law's long and Cmd: a command of few keys. -/
import Derived.Test.YtomgiockelhfiaaGreatMX
import Derived.Test.YtomgiockelhfiaaGreatZMtKey
import Derived.Test.YtomgiockelhfiaaGreatZInCm
import Derived.IntWalk
namespace Go.Proofs.YtomgiockelhfiaaGreat
open Go.RowKit
set_option maxRecDepth 100000
/-- A command as it came in. -/
def Cm.mc (t : Cm) : MC := ⟨t.k, t.key, t.val, t.want, t.ses, t.ticks⟩
theorem Cm.cmdV (t : Cm) : Go.Proofs.YtomgiockelhfiaaGreat.cmdV t.mc t.valA t.valC = t.value := rfl
def longB (t : Cm) : Bool := decide (5000 < t.key.size) || decide (5000 < t.val.length)
theorem longB_no {t : Cm} (h : longB t = false) : t.key.size ≤ 5000 ∧ t.val.length ≤ 5000 := by
  unfold longB at h
  simp at h
  omega
set_option maxHeartbeats 1000000 in
theorem mlong_any (t : Cm) (w : World) (h1 : t.key.size ≤ 9223372036854775807) (h2 : t.val.length ≤ 9223372036854775807) :
    Calls Tryz.prog 10 #[t.value] w fun e w' => e = .returned (.bool (longB t)) ∧ Frm [] w w' := by
  obtain ⟨tk, tkey, va, vc, tv, tw, ts, tt⟩ := t
  unfold longB Cm.value
  simp only at h1 h2 ⊢
  obtain ⟨vn, hvn⟩ : ∃ vn, vn = tv.length := ⟨_, rfl⟩
  rw [← hvn] at h2 ⊢
  clear hvn
  by_cases hk : 5000 < tkey.size
  · rw [decide_eq_true hk, Bool.true_or]
    have e1 : decide ((5000 : Int) < (tkey.size : Int)) = true := decide_eq_true (by omega)
    go_enter Tryz.func10, Tryz.ntmps10
    go_wp2
    go_ret
    exact ⟨rfl, (Frm.refl _ _).alloc _⟩
  · rw [decide_eq_false hk, Bool.false_or]
    have e1 : decide ((5000 : Int) < (tkey.size : Int)) = false := decide_eq_false (by omega)
    by_cases hv : 5000 < vn
    · rw [decide_eq_true hv]
      have e2 : decide ((5000 : Int) < (vn : Int)) = true := decide_eq_true (by omega)
      go_enter Tryz.func10, Tryz.ntmps10
      go_wp2
      go_ret
      exact ⟨rfl, (Frm.refl _ _).alloc _⟩
    · rw [decide_eq_false hv]
      have e2 : decide ((5000 : Int) < (vn : Int)) = false := decide_eq_false (by omega)
      go_enter Tryz.func10, Tryz.ntmps10
      go_wp2
      go_ret
      exact ⟨rfl, (Frm.refl _ _).alloc _⟩
set_option maxHeartbeats 2000000 in
theorem mcmd_any (t : Cm) (w : World) (hk : t.k < 256) (h1 : t.key.size ≤ 5000) :
    Calls Tryz.prog 11 #[t.value] w fun e w' => ∃ key : ByteArray, key.size ≤ 5000 ∧ e = .returned (.agg #[.int .u8 ((t.k % 9 : Nat) : Nat), .string key, .slice t.valA t.val.length t.valC, .int .u64 (t.want : Nat), .int .u64 (t.ses : Nat), .int .u64 (t.ticks : Nat)]) ∧ Frm [] w w' := by
  obtain ⟨tk, tkey, va, vc, tv, tw, ts, tt⟩ := t
  unfold Cm.value
  simp only at hk h1 ⊢
  obtain ⟨vn, hvn⟩ : ∃ vn, vn = tv.length := ⟨_, rfl⟩
  rw [← hvn]
  clear hvn
  obtain ⟨r, hr⟩ : ∃ r, r = tk % 9 := ⟨_, rfl⟩
  rw [← hr]
  have m1 : (tk : Int).tmod 9 = (r : Int) := by rw [hr]; exact (Int.ofNat_tmod tk 9).symm
  have m2 : (tk : Int) % 9 = (r : Int) := by omega
  have m3 : IntKind.u8.wrap (r : Int) = (r : Int) := IntWalk.u8_in _ (by omega)
  have m4 : (r : Int) % 256 = (r : Int) := by omega
  obtain ⟨w0, hw0⟩ : ∃ w0, w0 = w.alloc (.cells #[.int .u8 (r : Nat), .string tkey, .slice va vn vc, .int .u64 (tw : Nat), .int .u64 (ts : Nat), .int .u64 (tt : Nat)] 51) := ⟨_, rfl⟩
  obtain ⟨g, hg⟩ : ∃ g, g = w.heap.size := ⟨_, rfl⟩
  have hW := Whole.made w 51 #[.int .u8 (r : Nat), .string tkey, .slice va vn vc, .int .u64 (tw : Nat), .int .u64 (ts : Nat), .int .u64 (tt : Nat)]
  rw [← hw0, ← hg] at hW
  obtain ⟨w1, hw1⟩ : ∃ w1, w1 = w0.alloc (.cells #[.int .u8 0, .string ⟨#[]⟩, .slice none 0 0, .int .u64 0, .int .u64 0, .int .u64 0] 51) := ⟨_, rfl⟩
  obtain ⟨g2, hg2⟩ : ∃ g2, g2 = w0.heap.size := ⟨_, rfl⟩
  have hW2 := Whole.made w0 51 #[.int .u8 0, .string ⟨#[]⟩, .slice none 0 0, .int .u64 0, .int .u64 0, .int .u64 0]
  rw [← hw1, ← hg2] at hW2
  have hne : g ≠ g2 := by have := hW.lt; omega
  have hW1 := hW.alloc (.cells #[.int .u8 0, .string ⟨#[]⟩, .slice none 0 0, .int .u64 0, .int .u64 0, .int .u64 0] 51)
  rw [← hw1] at hW1
  have hf1 : Frm [] w w1 := by rw [hw1, hw0]; exact ((Frm.refl [] w).alloc _).alloc _
  have HK := Lib.hid (keyB_any tkey w1 (by omega))
  have HWA := Lib.hid hW1
  have HWB := Lib.hid hW2
  have HF1 := Lib.hid hf1
  have HW0 := Lib.hid hw0
  have HW1 := Lib.hid hw1
  have HG := Lib.hid hg
  have HG2 := Lib.hid hg2
  have HNE := Lib.hid hne
  have HKS := Lib.hid h1
  have e2 : w.heap.size + 1 = g2 := by rw [hg2, hw0]; simp
  have E2 := Lib.hid e2
  clear hW hW2 hne hW1 hf1 hw0 hw1 hg hg2 hr hk h1 e2
  go_enter Tryz.func11, Tryz.ntmps11
  go_wp2_with fail
  rw [← HW0.out, ← HW1.out, E2.out, ← HG.out]
  (with_reducible refine HK.out.mono ?_)
  rintro e w2 ⟨key, rfl, hks, hf2⟩
  have hA := hf2.whole HWA.out (by simp)
  have hB := hf2.whole HWB.out (by simp)
  obtain ⟨w3, hw3⟩ : ∃ w3, w3 = w2.setCell ⟨g, 1, none⟩ (.string key) := ⟨_, rfl⟩
  have hA3 := hA.put 1 (.string key)
  rw [← hw3] at hA3
  simp at hA3
  have hB3 := hB.other (p := ⟨g, 1, none⟩) (fun e => HNE.out e.symm) (.string key)
  rw [← hw3] at hB3
  obtain ⟨w4, hw4⟩ : ∃ w4, w4 = (((((w3.setCell ⟨g2, 0, none⟩ (.int .u8 (r : Nat))).setCell ⟨g2, 1, none⟩ (.string key)).setCell ⟨g2, 2, none⟩ (.slice va vn vc)).setCell ⟨g2, 3, none⟩ (.int .u64 (tw : Nat))).setCell ⟨g2, 4, none⟩ (.int .u64 (ts : Nat))).setCell ⟨g2, 5, none⟩ (.int .u64 (tt : Nat)) := ⟨_, rfl⟩
  have hB4 : Whole w4 g2 51 #[.int .u8 (r : Nat), .string key, .slice va vn vc, .int .u64 (tw : Nat), .int .u64 (ts : Nat), .int .u64 (tt : Nat)] := by
    have := (((((hB3.put 0 (.int .u8 (r : Nat))).put 1 (.string key)).put 2 (.slice va vn vc)).put 3 (.int .u64 (tw : Nat))).put 4 (.int .u64 (ts : Nat))).put 5 (.int .u64 (tt : Nat))
    rw [hw4]; simpa using this
  have hfz : Frm [] w w4 := by
    have h3 : Frm [] w w3 := by rw [hw3]; exact (HF1.out.trans hf2 (U := []) (by simp) (by simp)).setCell (.inr (by show w.heap.size ≤ g; have := HG.out; omega)) _
    have hg : w.heap.size ≤ g2 := by have := E2.out; omega
    rw [hw4]
    exact (((((h3.setCell (.inr hg) _).setCell (.inr hg) _).setCell (.inr hg) _).setCell (.inr hg) _).setCell (.inr hg) _).setCell (.inr hg) _
  have HE := Lib.hid hfz
  have x1 := hA.cell 1
  have y1 := hA.free 1
  have a0 := hA3.cell 0
  have a1 := hA3.cell 1
  have a2 := hA3.cell 2
  have a3 := hA3.cell 3
  have a4 := hA3.cell 4
  have a5 := hA3.cell 5
  have b0 := hB3.cell 0
  have b1 := hB3.cell 1
  have b2 := hB3.cell 2
  have b3 := hB3.cell 3
  have b4 := hB3.cell 4
  have b5 := hB3.cell 5
  have k0 := hB3.free 0
  have k1 := hB3.free 1
  have k2 := hB3.free 2
  have k3 := hB3.free 3
  have k4 := hB3.free 4
  have k5 := hB3.free 5
  have z0 := hB4.cell 0
  have z1 := hB4.cell 1
  have z2 := hB4.cell 2
  have z3 := hB4.cell 3
  have z4 := hB4.cell 4
  have z5 := hB4.cell 5
  simp at x1 a0 a1 a2 a3 a4 a5 b0 b1 b2 b3 b4 b5 z0 z1 z2 z3 z4 z5
  rw [hw3] at a0 a1 a2 a3 a4 a5 b0 b1 b2 b3 b4 b5 k0 k1 k2 k3 k4 k5
  have HW4 := Lib.hid hw4
  have HW3 := Lib.hid hw3
  clear hA hB hA3 hB3 hB4 hfz hw3 hw4 hf2 HK
  go_wp2
  rw [← HW3.out, ← HW4.out]
  refine bodyPost_ret (v := .agg #[.int .u8 (r : Nat), .string key, .slice va vn vc, .int .u64 (tw : Nat), .int .u64 (ts : Nat), .int .u64 (tt : Nat)]) ?_ rfl ?_
  · simp [results, Tryz.results11, go_sem, z0, z1, z2, z3, z4, z5]
  · exact ⟨key, by have := HKS.out; omega, rfl, HE.out⟩
end Go.Proofs.YtomgiockelhfiaaGreat
