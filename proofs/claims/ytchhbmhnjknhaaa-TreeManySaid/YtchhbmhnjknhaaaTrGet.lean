/- Contract of the program's Get. -/
import Derived.Test.YtchhbmhnjknhaaaTrStore
import Derived.Test.YtchhbmhnjknhaaaTrFind
namespace Go.Proofs.Ytchhbmhnjknhaaa
open Go.RowKit

def GetPEnd (w : World) (d : Nd) (b : Bool) (e : Ending) (w' : World) : Prop :=
  ∃ a' c', e = .returned (.tuple #[.agg #[.string d.k, .slice a' d.v.length c', .int .u64 (d.ver : Nat), .int .u64 (d.own : Nat)], .bool b]) ∧ Bytes w' a' d.v ∧ (a' = none → c' = 0) ∧ (∀ q, a' = some q → w.heap.size ≤ q.block) ∧ Frm [] w w'
theorem nd_default : (default : Nd) = ⟨⟨#[]⟩, [], 0, 0⟩ := rfl
/-- The node that Get answers. -/
def getN (L : List Nd) (s : ByteArray) : Nd := if isN L s = true then L.getD (ixN L s) default else default

set_option maxRecDepth 100000 in
set_option maxHeartbeats 1000000 in
theorem get_any {w : World} {B p : Nat} {F : List Nat} {a : Option Addr} {cap : Nat} {L : List Nx} {qs : List Nat} (s : ByteArray) (h : Pt w B p F a cap L qs) (hS : Srt (nds L)) (hk64 : ∀ d ∈ nds L, d.k.size ≤ 64 ∧ d.v.length ≤ 3840) :
    Calls Try.prog 19 #[.pointer (some ⟨p, 0, none⟩), .string s] w (GetPEnd w (getN (nds L) s) (isN (nds L) s)) := by
  obtain ⟨g, hg⟩ : ∃ g, g = w.heap.size := ⟨_, rfl⟩
  obtain ⟨wA, hA⟩ : ∃ wA, wA = w.alloc (.cells #[.string ⟨#[]⟩, .slice none 0 0, .int .u64 0, .int .u64 0] 44) := ⟨_, rfl⟩
  have hcA := Whole.made w 44 #[.string ⟨#[]⟩, .slice none 0 0, .int .u64 0, .int .u64 0]
  rw [← hA, ← hg] at hcA
  have hfA : Frm [] w wA := by rw [hA]; exact (Frm.refl _ _).alloc _
  have hP := h.keep (F' := F) hfA (by simp) (fun x hx => .inl hx)
  have HFI := Lib.hid (find_any s hP hS)
  have hgs : w.heap.size ≤ g := by omega
  have HG := Lib.hid hg
  have HA := Lib.hid hA
  have HF := Lib.hid hfA
  have HC := Lib.hid hcA
  have c0 := hP.tree.cell 0
  simp at c0
  have hfew := hP.few
  unfold getN
  cases his : isN (nds L) s
  · rw [if_neg (by simp), nd_default]
    rw [his] at HFI
    generalize ixN (nds L) s = ix at HFI
    have b0 := hcA.cell 0
    have b1 := hcA.cell 1
    have b2 := hcA.cell 2
    have b3 := hcA.cell 3
    have k0 := hcA.free 0
    have k1 := hcA.free 1
    have k2 := hcA.free 2
    have k3 := hcA.free 3
    simp at b0 b1 b2 b3
    obtain ⟨wZ, hZ⟩ : ∃ wZ, wZ = ((((wA.setCell ⟨g, 0, none⟩ (.string ⟨#[]⟩)).setCell ⟨g, 1, none⟩ (.slice none 0 0)).setCell ⟨g, 2, none⟩ (.int .u64 0)).setCell ⟨g, 3, none⟩ (.int .u64 0)) := ⟨_, rfl⟩
    have hw : Whole wZ g 44 #[.string ⟨#[]⟩, .slice none 0 0, .int .u64 0, .int .u64 0] := by
      have := (((hcA.put 0 (.string ⟨#[]⟩)).put 1 (.slice none 0 0)).put 2 (.int .u64 0)).put 3 (.int .u64 0)
      rw [hZ]; simpa using this
    have hfz : Frm [] w wZ := by rw [hZ]; exact (((hfA.setCell (.inr hgs) _).setCell (.inr hgs) _).setCell (.inr hgs) _).setCell (.inr hgs) _
    have HE := Lib.hid (show GetPEnd w ⟨⟨#[]⟩, [], 0, 0⟩ false (.returned (.tuple #[.agg #[.string ⟨#[]⟩, .slice none 0 0, .int .u64 0, .int .u64 0], .bool false])) wZ from ⟨none, 0, rfl, ⟨by simp, by simp, .inl rfl⟩, fun _ => rfl, fun q h => (by cases h), hfz⟩)
    have HZ := Lib.hid hZ
    have y0 := hw.cell 0
    have y1 := hw.cell 1
    have y2 := hw.cell 2
    have y3 := hw.cell 3
    simp at y0 y1 y2 y3
    clear h hP hS hcA hfA hA hg his hw hfz hZ hk64 hfew c0
    go_enter Try.func19, Try.ntmps19
    go_wp2_with fail
    rw [← HA.out, ← HG.out]
    (with_reducible refine HFI.out.mono ?_)
    rintro e w' ⟨rfl, rfl⟩
    go_wp2
    rw [← HZ.out]
    refine bodyPost_ret (v := .tuple #[.agg #[.string ⟨#[]⟩, .slice none 0 0, .int .u64 0, .int .u64 0], .bool false]) ?_ rfl ?_
    · simp [results, Try.results19, go_sem, y0, y1, y2, y3]
    · exact HE.out
  · rw [if_pos rfl]
    rw [his] at HFI
    have hlt : ixN (nds L) s < L.length := by
      obtain ⟨_, _, _, _, h4⟩ := isN_split his
      rwa [nds_len'] at h4
    obtain ⟨b, off, q, rfl, p0, hq, p1, p2, p3, p4, hok⟩ := hP.at hlt
    have hv : (nds L).getD (ixN (nds L) s) default = (L.getD (ixN (nds L) s) default).t := nds_getD
    have hkv := hk64 ((nds L).getD (ixN (nds L) s) default) (by simp [show ixN (nds L) s < (nds L).length by rw [nds_len']; exact hlt])
    rw [hv] at hkv ⊢
    obtain ⟨x, hx⟩ : ∃ x, x = L.getD (ixN (nds L) s) default := ⟨_, rfl⟩
    rw [← hx] at p1 p2 p3 p4 hok hkv ⊢
    obtain ⟨⟨xk, xv, xver, xown⟩, xa, xc⟩ := x
    simp only at p1 p2 p3 p4 hkv ⊢
    obtain ⟨m, hm⟩ : ∃ m, m = xv.length := ⟨_, rfl⟩
    rw [← hm] at p2 hkv
    generalize ixN (nds L) s = i at p0 hlt HFI
    obtain ⟨n, hn⟩ : ∃ n, n = L.length := ⟨_, rfl⟩
    rw [← hn] at c0 hfew hlt
    have HM := Lib.hid hm
    have HAL := Lib.hid (alone_any xk xa m xc xver xown xv wA hok.bytes hm hok.nil (by omega) (by omega))
    clear h hP hS hcA hfA hA hg his hk64 hx hok hq hv hkv hn hm
    go_enter Try.func19, Try.ntmps19
    go_wp2_with fail
    rw [← HA.out, ← HG.out]
    (with_reducible refine HFI.out.mono ?_)
    rintro e w' ⟨rfl, rfl⟩
    go_wp2_with fail
    (with_reducible refine HAL.out.mono ?_)
    rintro e w5 ⟨av, cv, rfl, hbv, hvnil, hvl, hf5⟩
    have hcA := hf5.whole HC.out (by simp)
    have b0 := hcA.cell 0
    have b1 := hcA.cell 1
    have b2 := hcA.cell 2
    have b3 := hcA.cell 3
    have k0 := hcA.free 0
    have k1 := hcA.free 1
    have k2 := hcA.free 2
    have k3 := hcA.free 3
    simp at b0 b1 b2 b3
    obtain ⟨wZ, hZ⟩ : ∃ wZ, wZ = ((((w5.setCell ⟨g, 0, none⟩ (.string xk)).setCell ⟨g, 1, none⟩ (.slice av m cv)).setCell ⟨g, 2, none⟩ (.int .u64 (xver : Nat))).setCell ⟨g, 3, none⟩ (.int .u64 (xown : Nat))) := ⟨_, rfl⟩
    have hw : Whole wZ g 44 #[.string xk, .slice av m cv, .int .u64 (xver : Nat), .int .u64 (xown : Nat)] := by
      have := (((hcA.put 0 (.string xk)).put 1 (.slice av m cv)).put 2 (.int .u64 (xver : Nat))).put 3 (.int .u64 (xown : Nat))
      rw [hZ]; simpa using this
    have hf5Z : Frm [g] w5 wZ := by rw [hZ]; exact ((((Frm.refl _ _).setCell (.inl (by simp)) _).setCell (.inl (by simp)) _).setCell (.inl (by simp)) _).setCell (.inl (by simp)) _
    have hfz : Frm [] w wZ := (HF.out.trans hf5 (U := []) (by simp) (by simp)).trans hf5Z (by simp) (fun x hx => by simp at hx; right; omega)
    have hgA := HC.out.lt
    have hbz : Bytes wZ av xv := hf5Z.bytes hbv (fun y hy hm => by have := hvl y hy; simp at hm; omega)
    have HE := Lib.hid (show GetPEnd w ⟨xk, xv, xver, xown⟩ true (.returned (.tuple #[.agg #[.string xk, .slice av m cv, .int .u64 (xver : Nat), .int .u64 (xown : Nat)], .bool true])) wZ from ⟨av, cv, by rw [HM.out], hbz, hvnil, fun y hy => Nat.le_trans HF.out.size (hvl y hy), hfz⟩)
    have HZ := Lib.hid hZ
    have y0 := hw.cell 0
    have y1 := hw.cell 1
    have y2 := hw.cell 2
    have y3 := hw.cell 3
    simp at y0 y1 y2 y3
    clear hcA hw hf5Z hfz hbz hZ hbv hvnil hvl hf5
    go_wp2
    rw [← HZ.out]
    refine bodyPost_ret (v := .tuple #[.agg #[.string xk, .slice av m cv, .int .u64 (xver : Nat), .int .u64 (xown : Nat)], .bool true]) ?_ rfl ?_
    · simp [results, Try.results19, go_sem, y0, y1, y2, y3]
    · exact HE.out
end Go.Proofs.Ytchhbmhnjknhaaa
