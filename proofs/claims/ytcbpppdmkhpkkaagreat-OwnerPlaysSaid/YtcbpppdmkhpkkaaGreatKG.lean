/- Contracts and mathematics that the proofs of this seat stand on: StAt, StGet, StDrop, StDel, StPut, StPut2, StPut3, StList, StBoth, SbAt, SbOps, SbExpire, SbOpen, RbRenew, SbRenew, Ds, RdDo, RdDo2, RdDo3, RdDo4, RdDo5, RdDo6, RdDoAll. -/
import Derived.Test.YtcbpppdmkhpkkaaGreatKF
import Derived.Test.YtcbpppdmkhpkkaaGreatKC
import Derived.Test.YtcbpppdmkhpkkaaGreatKD
import Derived.Test.YtcbpppdmkhpkkaaGreatKE
import Derived.Deep.RegionLaw
/- The document's tree inside a greater block, at cell fo of block p: at (Made by wip/mk-st.py out of XRtAt.) -/
namespace Go.Proofs.YtcbpppdmkhpkkaaGreat
open Go.RowKit
set_option maxRecDepth 100000
/-- The document's tree at cell fo of block p: the nodes X; its row and the values lie outside p and the blocks F. -/
structure St (w : World) (B p fo : Nat) (F : List Nat) (a : Option Addr) (cap : Nat) (X : List Nx) : Prop where
  c0 : w.cell? ⟨p, fo, none⟩ = some (.slice a X.length cap)
  free : ∀ j, w.frozen? ⟨p, j, none⟩ = false
  row : NOwn w B 58 (p :: F) a cap X
  hp : B ≤ p
  out : p ∉ F
  few : X.length ≤ 256
theorem St.plt {w : World} {B p fo : Nat} {F : List Nat} {a : Option Addr} {cap : Nat} {X : List Nx} (h : St w B p fo F a cap X) : p < w.heap.size := block_lt_of_cell h.c0
theorem St.keep {w w' : World} {B p fo : Nat} {F S : List Nat} {a : Option Addr} {cap : Nat} {X : List Nx} (h : St w B p fo F a cap X) (hf : Frm S w w') (hp : p ∉ S) (hS : ∀ x ∈ S, x ∈ p :: F ∨ w.heap.size ≤ x) : St w' B p fo F a cap X :=
  ⟨(hf.cell (p := ⟨p, fo, none⟩) h.plt hp).trans h.c0, fun j => (hf.frozen (p := ⟨p, j, none⟩) h.plt hp).trans (h.free j), h.row.keep hf hS (fun _ h => .inl h), h.hp, h.out, h.few⟩
set_option maxRecDepth 100000 in
set_option maxHeartbeats 1000000 in
theorem sat_any {w : World} {B p fo : Nat} {F : List Nat} {a : Option Addr} {cap : Nat} {X : List Nx} (s : ByteArray) (h : St w B p fo F a cap X) :
    Calls Tryz.prog 42 #[.pointer (some ⟨p, fo, none⟩), .string s] w fun e w' => e = .returned (.int .i64 (atI X s)) ∧ w = w' := by
  have c0 := h.c0
  try simp at c0
  have hn := h.few
  obtain ⟨n, hnn⟩ : ∃ n, n = X.length := ⟨_, rfl⟩
  rw [← hnn] at c0 hn
  have HR := Lib.hid h.row.nl
  have HN := Lib.hid hnn
  have hle := atN_le X s
  rw [← hnn] at hle
  have hatI : atI X s = if atN X s < n then ((atN X s : Nat) : Int) else -1 := by unfold atI; rw [hnn]
  have HAK := Lib.hid (fun h => atN_key (X := X) (s := s) h)
  have HAB := Lib.hid (fun j h => atN_before (X := X) (s := s) (j := j) h)
  obtain ⟨q, hq⟩ : ∃ q, q = atN X s := ⟨_, rfl⟩
  rw [← hq] at hle hatI HAK HAB
  have HAI := Lib.hid hatI
  clear h hnn hatI hq
  go_enter Tryz.func42, Tryz.ntmps42
  go_wp2
  go_loop [5] (fun u => ∃ k : Nat, k ≤ n ∧ k ≤ q ∧ u = .int .i64 (k : Nat)) (fun u => n - (intOf u).toNat)
  case atStart => exact ⟨0, Nat.zero_le _, Nat.zero_le _, rfl⟩
  case round =>
    obtain ⟨k, hk, hkq, rfl⟩ := hrel
    by_cases hlt : k < n
    · obtain ⟨b, off, rfl, c1, _⟩ := HR.out.at (i := k) (by have := HN.out; omega)
      by_cases hkq2 : k = q
      · subst hkq2
        have hkey := HAK.out (by have := HN.out; omega)
        rw [hkey] at c1
        go_wp2
        go_ret
        exact ⟨ret_same (by rw [HAI.out, if_pos hlt]), rfl⟩
      · obtain ⟨K, hK⟩ : ∃ K, K = (X.getD k default).t.k := ⟨_, rfl⟩
        have hne : ¬ K = s := by rw [hK]; exact HAB.out k (by omega)
        rw [← hK] at c1
        clear hK
        have hnt := txt_ne hne
        clear hne
        go_wp2
        go_round
        case rel => exact ⟨k + 1, by omega, by omega, by go_num⟩
        case measure => simp [intOf]; omega
    · go_wp2
      go_ret
      exact ⟨ret_same (by rw [HAI.out, if_neg (by omega)]), rfl⟩
end Go.Proofs.YtcbpppdmkhpkkaaGreat
/- The document's tree inside a greater block, at cell fo of block p: Get (Made by wip/mk-st.py out of XRtGet.) -/
namespace Go.Proofs.YtcbpppdmkhpkkaaGreat
open Go.RowKit
set_option maxRecDepth 100000
set_option maxRecDepth 100000 in
set_option maxHeartbeats 1000000 in
theorem sget_any {w : World} {B p fo : Nat} {F : List Nat} {a : Option Addr} {cap : Nat} {X : List Nx} (s : ByteArray) (h : St w B p fo F a cap X) :
    Calls Tryz.prog 16 #[.pointer (some ⟨p, fo, none⟩), .string s] w (GetEnd w X s) := by
  have hf := (Frm.refl [] w).alloc (.cells #[.string ⟨#[]⟩, .slice none 0 0, .int .u64 0, .int .u64 0] 58)
  have hn := h.few
  have hle := atN_le X s
  obtain ⟨wA, hA⟩ : ∃ wA, wA = w.alloc (.cells #[.string ⟨#[]⟩, .slice none 0 0, .int .u64 0, .int .u64 0] 58) := ⟨_, rfl⟩
  rw [← hA] at hf
  have h1 : St wA B p fo F a cap X := h.keep hf (by simp) (by simp)
  have hR := Lib.hid (sat_any s h1)
  have hcell := Whole.made w 58 #[.string ⟨#[]⟩, .slice none 0 0, .int .u64 0, .int .u64 0]
  rw [← hA] at hcell
  have c0 := h1.c0
  try simp at c0
  obtain ⟨g, hg⟩ : ∃ g, g = w.heap.size := ⟨_, rfl⟩
  have hgp : p ≠ g := by have := h.plt; omega
  rw [← hg] at hcell
  obtain ⟨n, hnn⟩ : ∃ n, n = X.length := ⟨_, rfl⟩
  rw [← hnn] at c0 hn hle
  obtain ⟨q, hq⟩ : ∃ q, q = atN X s := ⟨_, rfl⟩
  rw [← hq] at hle
  by_cases hin : q < n
  · obtain ⟨b, off, rfl, p0, p1, p2, p3, _⟩ := h1.row.nl.at (i := q) (by omega)
    have hat : atI X s = (q : Int) := by unfold atI; rw [← hq, ← hnn, if_pos hin]
    have hE : GetEnd w X s (.returned (.tuple #[.agg #[.string (X.getD q default).t.k, .slice (X.getD q default).a (X.getD q default).t.v.length (X.getD q default).c, .int .u64 ((X.getD q default).t.ver : Nat), .int .u64 ((X.getD q default).t.own : Nat)], .bool true])) = fun w' => Frm [] w w' := by
      funext w'
      unfold GetEnd Nx.val
      rw [← hq, ← hnn]
      simp [hin]
    have HE := Lib.hid hE
    generalize X.getD q default = x at p0 p1 p2 p3 HE
    obtain ⟨⟨xk, xv, xver, xown⟩, xa, xc⟩ := x
    simp only at p0 p1 p2 p3 HE
    obtain ⟨m, hm⟩ : ∃ m, m = xv.length := ⟨_, rfl⟩
    rw [← hm] at p1 HE
    have HAT := Lib.hid hat
    have HG := Lib.hid hg
    have HA := Lib.hid hA
    have HF := Lib.hid hf
    have f0 := hcell.free 0
    have f1 := hcell.free 1
    have f2 := hcell.free 2
    have f3 := hcell.free 3
    have z0 := hcell.cell 0
    have z1 := hcell.cell 1
    have z2 := hcell.cell 2
    have z3 := hcell.cell 3
    simp at z0 z1 z2 z3
    have HC := Lib.hid hcell
    clear hE h1 h hat hg hA hf hq hnn hm hcell
    go_enter Tryz.func16, Tryz.ntmps16
    go_wp2_with fail
    rw [← HA.out, ← HG.out]
    refine hR.out.mono ?_
    rintro e w' ⟨rfl, rfl⟩
    rw [HAT.out]
    go_wp2
    obtain ⟨wZ, hZ⟩ : ∃ wZ, wZ = ((((wA.setCell ⟨g, 0, none⟩ (.string xk)).setCell ⟨g, 1, none⟩ (.slice xa m xc)).setCell ⟨g, 2, none⟩ (.int .u64 (xver : Nat))).setCell ⟨g, 3, none⟩ (.int .u64 (xown : Nat))) := ⟨_, rfl⟩
    have hw : Whole wZ g 58 #[.string xk, .slice xa m xc, .int .u64 (xver : Nat), .int .u64 (xown : Nat)] := by
      have := (((HC.out.put 0 (.string xk)).put 1 (.slice xa m xc)).put 2 (.int .u64 (xver : Nat))).put 3 (.int .u64 (xown : Nat))
      rw [hZ]; simpa using this
    have hfz : Frm [] w wZ := by
      have hg : w.heap.size ≤ g := by have := HG.out; omega
      rw [hZ]; exact (((HF.out.setCell (.inr hg) _).setCell (.inr hg) _).setCell (.inr hg) _).setCell (.inr hg) _
    rw [← hZ]
    have y0 := hw.cell 0
    have y1 := hw.cell 1
    have y2 := hw.cell 2
    have y3 := hw.cell 3
    simp at y0 y1 y2 y3
    refine bodyPost_ret (v := .tuple #[.agg #[.string xk, .slice xa m xc, .int .u64 (xver : Nat), .int .u64 (xown : Nat)], .bool true]) ?_ rfl ?_
    · simp [results, Tryz.results16, go_sem, y0, y1, y2, y3]
    · rw [HE.out]
      exact hfz
  · have hat : atI X s = -1 := by unfold atI; rw [← hq, ← hnn, if_neg hin]
    have hqn : q = n := by omega
    have hdf : X.getD q default = default := by simp [List.getD, hqn, hnn]
    have hE : GetEnd w X s (.returned (.tuple #[.agg #[.string ⟨#[]⟩, .slice none 0 0, .int .u64 0, .int .u64 0], .bool false])) = fun w' => Frm [] w w' := by
      funext w'
      unfold GetEnd Nx.val
      rw [← hq, ← hnn, hdf, nx_default]
      simp [hin]
    have HE := Lib.hid hE
    have HAT := Lib.hid hat
    have HG := Lib.hid hg
    have HA := Lib.hid hA
    have HF := Lib.hid hf
    have f0 := hcell.free 0
    have f1 := hcell.free 1
    have f2 := hcell.free 2
    have f3 := hcell.free 3
    have z0 := hcell.cell 0
    have z1 := hcell.cell 1
    have z2 := hcell.cell 2
    have z3 := hcell.cell 3
    simp at z0 z1 z2 z3
    have HC := Lib.hid hcell
    clear hE h1 h hat hg hA hf hq hnn hcell hdf hqn
    go_enter Tryz.func16, Tryz.ntmps16
    go_wp2_with fail
    rw [← HA.out, ← HG.out]
    refine hR.out.mono ?_
    rintro e w' ⟨rfl, rfl⟩
    rw [HAT.out]
    go_wp2
    obtain ⟨wZ, hZ⟩ : ∃ wZ, wZ = ((((wA.setCell ⟨g, 0, none⟩ (.string ⟨#[]⟩)).setCell ⟨g, 1, none⟩ (.slice none 0 0)).setCell ⟨g, 2, none⟩ (.int .u64 0)).setCell ⟨g, 3, none⟩ (.int .u64 0)) := ⟨_, rfl⟩
    have hw : Whole wZ g 58 #[.string ⟨#[]⟩, .slice none 0 0, .int .u64 0, .int .u64 0] := by
      have := (((HC.out.put 0 (.string ⟨#[]⟩)).put 1 (.slice none 0 0)).put 2 (.int .u64 0)).put 3 (.int .u64 0)
      rw [hZ]; simpa using this
    have hfz : Frm [] w wZ := by
      have hg : w.heap.size ≤ g := by have := HG.out; omega
      rw [hZ]; exact (((HF.out.setCell (.inr hg) _).setCell (.inr hg) _).setCell (.inr hg) _).setCell (.inr hg) _
    rw [← hZ]
    have y0 := hw.cell 0
    have y1 := hw.cell 1
    have y2 := hw.cell 2
    have y3 := hw.cell 3
    simp at y0 y1 y2 y3
    refine bodyPost_ret (v := .tuple #[.agg #[.string ⟨#[]⟩, .slice none 0 0, .int .u64 0, .int .u64 0], .bool false]) ?_ rfl ?_
    · simp [results, Tryz.results16, go_sem, y0, y1, y2, y3]
    · rw [HE.out]
      exact hfz
end Go.Proofs.YtcbpppdmkhpkkaaGreat
/- The document's tree inside a greater block, at cell fo of block p: Drop; what a change leaves (Made by wip/mk-st.py out of XRtDrop.) -/
namespace Go.Proofs.YtcbpppdmkhpkkaaGreat
open Go.RowKit
set_option maxRecDepth 100000
/-- Of block p just the cell fo was turned. -/
def OthT (p fo : Nat) (w w' : World) : Prop := ∀ j, j ≠ fo → w'.cell? ⟨p, j, none⟩ = w.cell? ⟨p, j, none⟩
def StTo (w w' : World) (B p fo : Nat) (F : List Nat) (X' : List Nx) : Prop := ∃ a' c', St w' B p fo F a' c' X' ∧ Frm [p] w w' ∧ (∀ g ∈ blk a', w.heap.size ≤ g) ∧ OthT p fo w w'
def StEnd (w : World) (B p fo : Nat) (F : List Nat) (X' : List Nx) (v : Value) (e : Ending) (w' : World) : Prop := e = .returned v ∧ StTo w w' B p fo F X'
/-- A list of nodes is stored in the tree. -/
theorem St.store {w w1 : World} {B p fo : Nat} {F : List Nat} {a a' : Option Addr} {cap c' : Nat} {X Y : List Nx} (h : St w B p fo F a cap X) (hf : Frm [] w w1) (hr : NOwn w1 w.heap.size 58 (p :: F) a' c' Y) (hl : Y.length ≤ 256) :
    StTo w (w1.setCell ⟨p, fo, none⟩ (.slice a' Y.length c')) B p fo F Y := by
  have hp1 : w1.cell? ⟨p, fo, none⟩ = some (.slice a X.length cap) := (hf.cell (p := ⟨p, fo, none⟩) h.plt (by simp)).trans h.c0
  have hs : Frm [p] w1 (w1.setCell ⟨p, fo, none⟩ (.slice a' Y.length c')) := (Frm.refl _ _).setCell (.inl (by simp)) _
  have hr2 := hr.keep (F' := p :: F) hs (fun x hx => .inl (by simp at hx; simp [hx])) (fun _ hx => .inl hx)
  have hoth : ∀ j, j ≠ fo → (w1.setCell ⟨p, fo, none⟩ (.slice a' Y.length c')).cell? ⟨p, j, none⟩ = w.cell? ⟨p, j, none⟩ := fun j hj => by
    rw [World.cell?_setCell_other _ _ _ _ (by first | (simp; done) | (simp; exact fun e => hj e.symm))]
    exact hf.cell (p := ⟨p, j, none⟩) h.plt (by simp)
  refine ⟨a', c', ⟨World.cell?_setCell_same _ _ _ hp1, fun j => ?_, ⟨?_, hr2.ok, hr2.away⟩, h.hp, h.out, hl⟩, (hf.weak (by simp)).trans hs (fun x hx => hx) (fun x hx => .inl hx), fun g hg => (hr.blk_lt g hg).1, hoth⟩
  · rw [World.frozen?_setCell]
    exact (hf.frozen (p := ⟨p, j, none⟩) h.plt (by simp)).trans (h.free j)
  · refine ⟨hr2.own.1, ?_⟩
    rcases hr2.own.2 with h2 | ⟨g, cp, cur, hv, hg, r⟩
    · exact .inl h2
    · exact .inr ⟨g, cp, cur, hv, by have := h.hp; have := h.plt; omega, r⟩
set_option maxRecDepth 100000 in
set_option maxHeartbeats 2000000 in
theorem sdrop_any {w : World} {B p fo : Nat} {F : List Nat} {a : Option Addr} {cap : Nat} {X : List Nx} (o : Nat) (h : St w B p fo F a cap X) (hF : ∀ x ∈ F, x < w.heap.size) :
    Calls Tryz.prog 39 #[.pointer (some ⟨p, fo, none⟩), .int .u64 (o : Nat)] w (StEnd w B p fo F (keepO o X) (.tuple #[])) := by
  obtain ⟨i0, hi, hz0, hz1, hz2⟩ := info_parts Tryz.info58
  have HI := Lib.hid hi; clear hi
  have HZ0 := Lib.hid hz0; clear hz0
  have HZ1 := Lib.hid hz1; clear hz1
  have HZ2 := Lib.hid hz2; clear hz2
  have hn := h.few
  have HH := Lib.hid h; clear h
  have HPF : Hid (∀ x ∈ p :: F, x < w.heap.size) := Lib.hid fun x hx => by
    rcases List.mem_cons.1 hx with rfl | h1
    · exact HH.out.plt
    · exact hF x h1
  clear hF
  obtain ⟨n, hnn⟩ : ∃ n, n = X.length := ⟨_, rfl⟩
  rw [← hnn] at hn
  have HN := Lib.hid hnn; clear hnn
  go_enter Tryz.func39, Tryz.ntmps39
  go_wp2
  go_loopw [4, 5] (fun u4 u5 wr => DrRel w p F o X u4 u5 wr) (fun _ u5 _ => n - (intOf u5).toNat)
  case atStart => exact ⟨0, none, 0, Nat.zero_le _, rfl, rfl, NOwn.nil _ _ _ _, Frm.refl _ _⟩
  case round =>
    obtain ⟨k, a', c', hk, rfl, rfl, hown, hf⟩ := hrel
    have HO := Lib.hid hown; clear hown
    have HF := Lib.hid hf; clear hf
    have c0 := ((HF.out.cell (p := ⟨p, fo, none⟩) HH.out.plt (by simp)).trans HH.out.c0)
    rw [← HN.out] at c0
    try simp at c0
    obtain ⟨m, hm⟩ : ∃ m, m = (keepO o (X.take k)).length := ⟨_, rfl⟩
    have hmk : m ≤ 256 := by have h1 := keepO_len o (X.take k); rw [List.length_take] at h1; have := HN.out; omega
    rw [← hm]
    have HM := Lib.hid hm; clear hm
    by_cases hlt : k < n
    · have hkL : k < X.length := by have := HN.out; omega
      obtain ⟨b, off, rfl, p0, p1, p2, p3, _⟩ := (HH.out.row.nl.keep (F' := p :: F) HF.out (by simp) (fun x h => .inl h)).at hkL
      have ok := HH.out.row.nl.ok (X.getD k default) (by simp [hkL])
      have hst := keepO_take (o := o) hkL
      obtain ⟨x, hx⟩ : ∃ x, x = X.getD k default := ⟨_, rfl⟩
      rw [← hx] at p0 p1 p2 p3 ok hst
      obtain ⟨⟨xk, xv, xver, xown⟩, xa, xc⟩ := x
      simp only at p0 p1 p2 p3 hst
      obtain ⟨xm, hxm⟩ : ∃ xm, xm = xv.length := ⟨_, rfl⟩
      rw [← hxm] at p1
      have HKL := Lib.hid hkL; clear hkL
      have OK := Lib.hid ok; clear ok
      have HXM := Lib.hid hxm; clear hxm
      clear hx
      by_cases hst2 : o = 0 ∨ xown ≠ o
      · have hst3 : (o = 0 ∨ (o ≠ 0 ∧ xown ≠ o)) := by omega
        rw [if_pos hst2] at hst
        have HST := Lib.hid hst
        clear hst hst2
        obtain ⟨w2, hw2⟩ : ∃ w2, w2 = wr.alloc (.cells #[.string xk, .slice xa xm xc, .int .u64 (xver : Nat), .int .u64 (xown : Nat)] 58) := ⟨_, rfl⟩
        have hf2 : Frm [] wr w2 := by rw [hw2]; exact (Frm.refl _ _).alloc _
        have hv2 : ValsAt w2 (some ⟨wr.heap.size, 0, none⟩) (nc [⟨⟨xk, xv, xver, xown⟩, xa, xc⟩]) := by
          rw [hw2, HXM.out]; exact nvals_one wr ⟨⟨xk, xv, xver, xown⟩, xa, xc⟩ _
        have ho2 := HO.out.keep (F' := p :: F) hf2 (by simp) (fun x h => .inl h)
        have hok2 : NOk w2 (blk a' ++ (p :: F)) [⟨⟨xk, xv, xver, xown⟩, xa, xc⟩] := fun y hy => by
          simp at hy
          subst hy
          refine OK.out.keep (HF.out.trans hf2 (U := []) (by simp) (by simp)) (by simp) (fun x hx => ?_)
          rcases List.mem_append.1 hx with h1 | h1
          · exact .inr (HO.out.blk_lt x h1).1
          · exact .inl h1
        have hown2 := ho2.own
        rw [← HM.out] at hown2
        have HO2 := Lib.hid ho2
        have HW := Lib.hid hown2
        have HV := Lib.hid hv2
        have HOK := Lib.hid hok2
        have HF2 := Lib.hid (HF.out.trans hf2 (U := []) (by simp) (by simp))
        have HW2 := Lib.hid hw2
        have hfit : m + 1 ≤ 1000000000 := by omega
        clear hw2 hf2 hv2 ho2 hok2 hown2
        have hb : ((o : Int) == 0) = true ∨ (((o : Int) == 0) = false ∧ ((xown : Int) != (o : Int)) = true) := by
          rcases hst3 with h | ⟨h, h2⟩
          · exact .inl (by simp; omega)
          · exact .inr ⟨by simp; omega, by simp; omega⟩
        clear hst3
        rcases hb with h3 | ⟨h3, h4⟩
        all_goals
          go_wp2_with (at_builtin; rw [← HW2.out]; refine wpList_appS (by rfl) (.tmp 29) (.tmp 37) 28 rfl w.heap.size 58 i0 (.agg #[.string ⟨#[]⟩, .slice none 0 0, .int .u64 0, .int .u64 0]) 4 56 Tryz.underlying28 HI.out HZ0.out rfl (by decide) HZ1.out HZ2.out (by decide) (.slice a' m c') m _ rfl HW.out _ 1 1 _ rfl HV.out rfl (nc_one _) (fun h => by cases h) hfit HF2.out.size ?_)
          intro a3 c3 w3 happ
          obtain ⟨g1, g2, g3, g4⟩ := HO2.out.app HM.out HOK.out rfl (fun x hx => Nat.lt_of_lt_of_le (HPF.out x hx) HF2.out.size) happ
          have HG1 := Lib.hid g1
          have HG4 := Lib.hid g4
          have HF3 := Lib.hid (HF2.out.trans g2 (U := []) (by simp) (fun x hx => .inr (HO2.out.blk_lt x hx).1))
          clear happ g1 g2 g3 g4
          go_wp2
          go_round
          case rel => exact ⟨k + 1, a3, c3, HKL.out, by rw [HST.out, ← HG4.out]; rfl, by go_num, by rw [HST.out]; exact HG1.out, HF3.out⟩
          case measure => simp [intOf]; omega
      · have h3 : o ≠ 0 := by omega
        have h4 : xown = o := by omega
        rw [if_neg hst2, List.append_nil] at hst
        have HST := Lib.hid hst
        clear hst hst2
        subst h4
        have h5 : ((xown : Int) == 0) = false := by simp; omega
        clear h3
        go_wp2
        go_round
        case rel => exact ⟨k + 1, a', c', HKL.out, by rw [HST.out, ← HM.out], by go_num, by rw [HST.out]; exact HO.out, HF.out⟩
        case measure => simp [intOf]; omega
    · have hkx : X.take k = X := List.take_of_length_le (by have := HN.out; omega)
      have ho := HO.out
      have hm := HM.out
      rw [hkx] at ho hm
      have HO2 := Lib.hid (St.store HH.out HF.out ho (by omega))
      rw [← hm] at HO2
      have f0 := ((HF.out.frozen (p := ⟨p, fo, none⟩) HH.out.plt (by simp)).trans (HH.out.free fo))
      clear ho hm hkx HO HM hk
      go_wp2
      go_end0
      exact ⟨rfl, HO2.out⟩
end Go.Proofs.YtcbpppdmkhpkkaaGreat
/- The document's tree inside a greater block, at cell fo of block p: Delete (Made by wip/mk-st.py out of XRtDel.) -/
namespace Go.Proofs.YtcbpppdmkhpkkaaGreat
open Go.RowKit
set_option maxRecDepth 100000
set_option maxRecDepth 100000 in
set_option maxHeartbeats 2000000 in
theorem sdel_bad {w : World} {B p fo : Nat} {F : List Nat} {a : Option Addr} {cap : Nat} {X : List Nx} (s : ByteArray) (want : Nat) (h : St w B p fo F a cap X) (hc : delC X s want ≠ 0) :
    Calls Tryz.prog 35 #[.pointer (some ⟨p, fo, none⟩), .string s, .int .u64 (want : Nat)] w fun e w' => e = .returned (.int .i64 (delC X s want : Nat)) ∧ w = w' := by
  have hR := Lib.hid (sat_any s h)
  have c0 := h.c0
  try simp at c0
  have hn := h.few
  have hat : atI X s = if atN X s < X.length then ((atN X s : Nat) : Int) else -1 := rfl
  have hrow := Lib.hid h.row.nl
  unfold delC at hc ⊢
  obtain ⟨q, hq⟩ : ∃ q, q = atN X s := ⟨_, rfl⟩
  obtain ⟨n, hnn⟩ : ∃ n, n = X.length := ⟨_, rfl⟩
  rw [← hq, ← hnn] at hc hat
  rw [← hq, ← hnn]
  rw [← hnn] at c0 hn
  have HNN := Lib.hid hnn
  clear h hq hnn
  by_cases hin : q < n
  · rw [if_pos hin] at hat
    rw [hat] at hR
    rw [if_neg (by omega)] at hc ⊢
    obtain ⟨b, off, rfl, _, _, p2, _, _⟩ := hrow.out.at (i := q) (by have := HNN.out; omega)
    generalize (X.getD q default).t.ver = ver at p2 hc ⊢
    by_cases e5 : ver = want
    · exfalso
      rw [if_neg (by omega)] at hc
      exact hc rfl
    · rw [if_pos e5]
      have e5' : ((ver : Int) != (want : Int)) = true := by simp; omega
      clear hat hc hrow HNN e5
      go_enter Tryz.func35, Tryz.ntmps35
      go_wp2_with fail
      refine hR.out.mono ?_
      rintro e w' ⟨rfl, rfl⟩
      go_wp2
      go_ret
      exact ⟨rfl, rfl⟩
  · rw [if_neg hin] at hat
    rw [hat] at hR
    rw [if_pos hin]
    clear hat hc hrow HNN
    go_enter Tryz.func35, Tryz.ntmps35
    go_wp2_with fail
    refine hR.out.mono ?_
    rintro e w' ⟨rfl, rfl⟩
    go_wp2
    go_ret
    exact ⟨rfl, rfl⟩

set_option maxRecDepth 100000 in
set_option maxHeartbeats 4000000 in
theorem sdel_ok {w : World} {B p fo : Nat} {F : List Nat} {a : Option Addr} {cap : Nat} {X : List Nx} (s : ByteArray) (want q : Nat) (h : St w B p fo F a cap X) (hF : ∀ x ∈ F, x < w.heap.size) (hq : q = atN X s) (hin : q < X.length) (hver : (X.getD q default).t.ver = want) :
    Calls Tryz.prog 35 #[.pointer (some ⟨p, fo, none⟩), .string s, .int .u64 (want : Nat)] w (StEnd w B p fo F (X.take q ++ X.drop (q + 1)) (.int .i64 0)) := by
  obtain ⟨i0, hi, hz0, hz1, hz2⟩ := info_parts Tryz.info58
  have HI := Lib.hid hi; clear hi
  have HZ0 := Lib.hid hz0; clear hz0
  have HZ1 := Lib.hid hz1; clear hz1
  have HZ2 := Lib.hid hz2; clear hz2
  have hat : atI X s = (q : Int) := by unfold atI; rw [← hq, if_pos hin]
  have hR := sat_any s h
  rw [hat] at hR
  have HR := Lib.hid hR; clear hR hat
  obtain ⟨n, hnn⟩ : ∃ n, n = X.length := ⟨_, rfl⟩
  have hn : n ≤ 256 := by have := h.few; omega
  have hqn : q < n := by omega
  obtain ⟨b, off, rfl, _, _, p2, _, _⟩ := h.row.nl.at hin
  rw [hver] at p2
  have c0 := h.c0
  rw [← hnn] at c0
  try simp at c0
  have f0 := h.free fo
  have hcap : n ≤ cap := by rw [hnn]; exact h.row.caps.1
  have hw3 : ((want : Int) != (want : Int)) = false := by simp
  have HH := Lib.hid h
  have HN := Lib.hid hnn
  have HPF : Hid (∀ x ∈ p :: F, x < w.heap.size) := Lib.hid fun x hx => by
    rcases List.mem_cons.1 hx with rfl | h1
    · exact HH.out.plt
    · exact hF x h1
  -- the two pieces
  have hcut1 := fun w => run_head4 Tryz.underlying28 sizeN w (some ⟨b, off, none⟩) n cap q (by omega)
  have hcut2 := fun w => run_cut4 (P := Tryz.prog) Tryz.underlying28 sizeN w (some ⟨b, off, none⟩) n cap (q + 1) ((q : Int) + 1) (by omega) (by omega)
  obtain ⟨a2, ha2⟩ : ∃ a2, a2 = cut4 (some ⟨b, off, none⟩) cap (q + 1) := ⟨_, rfl⟩
  obtain ⟨n2, hn2⟩ : ∃ n2, n2 = n - (q + 1) := ⟨_, rfl⟩
  obtain ⟨c2, hc2⟩ : ∃ c2, c2 = cap - (q + 1) := ⟨_, rfl⟩
  have hD2 := h.row.nl.drop (by rw [← hnn]; exact hcap) (q + 1)
  rw [← ha2] at hcut2 hD2
  rw [← hn2, ← hc2] at hcut2
  have hD1 := h.row.nl.take q
  have hs1 : IntKind.i64.wrap ((q : Int) + 1) = (q : Int) + 1 := IntWalk.i64_in _ (by omega)
  have h2none : a2 = none → c2 = 0 := fun h0 => by
    rw [ha2] at h0
    unfold cut4 at h0
    split at h0 <;> simp at h0
  have HD1 := Lib.hid hD1
  have HD2 := Lib.hid hD2
  have H2N := Lib.hid h2none
  have hl1 : (nc (X.take q)).length = q * 4 := by rw [nc_length, List.length_take, ← hnn, Nat.min_eq_left (by omega)]
  have hl2 : (nc (X.drop (q + 1))).length = n2 * 4 := by rw [nc_length, List.length_drop, ← hnn, hn2]
  have hm1 : q = (X.take q).length := by rw [List.length_take, ← hnn, Nat.min_eq_left (by omega)]
  have hm2 : n2 = (X.drop (q + 1)).length := by rw [List.length_drop, ← hnn, hn2]
  have HL1 := Lib.hid hl1
  have HL2 := Lib.hid hl2
  have HM1 := Lib.hid hm1
  have HM2 := Lib.hid hm2
  have hfit1 : 0 + q ≤ 1000000000 := by omega
  have hfit2 : q + n2 ≤ 1000000000 := by omega
  have hfit3 : q + n2 ≤ 256 := by omega
  obtain ⟨wA, hA⟩ : ∃ wA, wA = w.alloc (.cells #[] 58) := ⟨_, rfl⟩
  have hfA : Frm [] w wA := by rw [hA]; exact (Frm.refl _ _).alloc _
  have cA := ((hfA.cell (p := ⟨p, fo, none⟩) HH.out.plt (by simp)).trans HH.out.c0)
  rw [← HN.out] at cA
  try simp at cA
  rw [hA] at cA
  clear hnn hn2 hc2 ha2 hD1 hD2 h2none hl1 hl2 hm1 hm2 hF hq hin hver h hfA hA
  go_enter Tryz.func35, Tryz.ntmps35
  go_wp2_with fail
  refine HR.out.mono ?_
  rintro e w' ⟨rfl, rfl⟩
  go_wp2
  have cp : ∀ z, Frm [] w z → z.cell? ⟨p, fo, none⟩ = some (.slice (some ⟨b, off, none⟩) n cap) := fun z hz => (hz.cell (block_lt_of_cell c0) (by simp)).trans c0
  have V1 := Lib.hid (fun (z : World) (hz : Frm [] w z) => (HD1.out.keep (F' := p :: F) hz (by simp) (fun x h => .inl h)).vals)
  have V2 := Lib.hid (fun (z : World) (hz : Frm [] w z) => (HD2.out.keep (F' := p :: F) hz (by simp) (fun x h => .inl h)).vals)
  have LIT := Lib.hid (fun (z : World) (hz : Frm [] w z) => (show (z.alloc (.cells #[] 58)).ownsRow w.heap.size 58 4 (.slice (some ⟨z.heap.size, 0, none⟩) 0 0) 0 (nc []) from World.ownsRow_lit z #[] 0 hz.size (by unfold maxLen; omega) rfl))
  have FRZ := Lib.hid (fun (z : World) (hz : Frm [] w z) => ((hz.frozen (p := ⟨p, fo, none⟩) HH.out.plt (by simp)).trans (HH.out.free fo)))
  have OLN := Lib.hid (fun (z : World) (hz : Frm [] w z) => (show NOwn (z.alloc (.cells #[] 58)) w.heap.size 58 (p :: F) (some ⟨z.heap.size, 0, none⟩) 0 [] from ⟨World.ownsRow_lit z #[] 0 hz.size (by unfold maxLen; omega) rfl, NOk.nil _ _, fun g hg hm => by
    simp at hg; subst hg; have h1 := HPF.out _ hm; have h2 := hz.size; omega⟩))
  have f00 : Frm [] w w.drew := (Frm.refl [] w).drew
  go_region_law (first
    | (refine step_appS (by rfl) (.tmp 24) (.tmp 30) 28 rfl w.heap.size 58 i0 (.agg #[.string ⟨#[]⟩, .slice none 0 0, .int .u64 0, .int .u64 0]) 4 56 Tryz.underlying28 HI.out HZ0.out rfl (by decide) HZ1.out HZ2.out (by decide) _ 0 _ rfl (LIT.out w.drew f00) _ q cap _ rfl (V1.out _ (f00.alloc _)) HL1.out (nc_one _) (fun h => by cases h) hfit1 (f00.alloc _).size q (by omega) ?_; intro a3 c3 w3 happ3; have f3 : Frm [] w w3 := frm_lit f00 happ3; have O3 : Hid (w3.ownsRow w.heap.size 58 4 (.slice a3 q c3) q (nc (X.take q))) := (by have h := happ3.own; rw [Nat.zero_add] at h; exact Lib.hid h); have A3 := Lib.hid happ3; clear happ3; have cp3 := cp _ f3)
    | (refine step_appS (by rfl) (.tmp 31) (.tmp 38) 28 rfl w.heap.size 58 i0 (.agg #[.string ⟨#[]⟩, .slice none 0 0, .int .u64 0, .int .u64 0]) 4 56 Tryz.underlying28 HI.out HZ0.out rfl (by decide) HZ1.out HZ2.out (by decide) _ q _ rfl O3.out _ n2 c2 _ rfl (V2.out _ f3) HL2.out (nc_one _) H2N.out hfit2 f3.size (q + n2) rfl ?_; intro a4 c4 w4 happ4; have f4 : Frm [] w w4 := frm_app f3 happ4 (fun g hg => (World.ownsRow.lt O3.out g hg).1); have A4 := Lib.hid happ4; clear happ4; have cp4 := cp _ f4; have fp4 := FRZ.out _ f4))
  all_goals
    have hoka : ∀ (z : World) (G : List Nat) (Y : List Nx), Frm [] w z → (∀ x ∈ G, w.heap.size ≤ x) → NOk w (p :: F) Y → NOk z (G ++ (p :: F)) Y := fun z G Y hz hG hY => hY.keep hz (by simp) (fun x hx => by
      rcases List.mem_append.1 hx with h1 | h1
      · exact .inr (hG x h1)
      · exact .inl h1)
    obtain ⟨g1, g2, g3, g4⟩ := (OLN.out w.drew f00).app (X := []) rfl (hoka _ _ _ (f00.alloc _) (fun x hx => by simp at hx; subst hx; exact f00.size) HD1.out.ok) HM1.out (fun x hx => Nat.lt_of_lt_of_le (HPF.out x hx) (f00.alloc _).size) A3.out
    rw [List.nil_append] at g1
    obtain ⟨k1, k2, k3, k4⟩ := g1.app HM1.out (hoka _ _ _ f3 (fun x hx => (g1.blk_lt x hx).1) HD2.out.ok) HM2.out (fun x hx => Nat.lt_of_lt_of_le (HPF.out x hx) f3.size) A4.out
    have hst := St.store HH.out f4 k1 (by rw [← k4]; omega)
    rw [← k4] at hst
    have HST := Lib.hid hst
    clear hoka g1 g2 g3 g4 k1 k2 k3 k4 hst A3 A4 O3 cp cp3 cp4 fp4 f3 f4 f00
    go_wp2
    go_ret
    exact ⟨rfl, HST.out⟩

end Go.Proofs.YtcbpppdmkhpkkaaGreat
/- The document's tree inside a greater block, at cell fo of block p: Put where it refuses (Made by wip/mk-st.py out of XRtPut.) -/
namespace Go.Proofs.YtcbpppdmkhpkkaaGreat
open Go.RowKit
set_option maxRecDepth 100000
set_option maxRecDepth 100000 in
set_option maxHeartbeats 2000000 in
theorem sput_bad {w : World} {B p fo : Nat} {F : List Nat} {a : Option Addr} {cap : Nat} {X : List Nx} (s : ByteArray) (va : Option Addr) (vn vc : Nat) (v : List Nat) (want own : Nat) (h : St w B p fo F a cap X) (hv : vn = v.length) (hv63 : vn ≤ 9223372036854775807)
    (hs : s.size ≤ 9223372036854775807) (hc : putC X s v want ≠ 0) :
    Calls Tryz.prog 34 #[.pointer (some ⟨p, fo, none⟩), .string s, .slice va vn vc, .int .u64 (want : Nat), .int .u64 (own : Nat)] w fun e w' => e = .returned (.tuple #[.int .u64 0, .int .i64 (putC X s v want : Nat)]) ∧ w = w' := by
  have hR := Lib.hid (sat_any s h)
  have c0 := h.c0
  try simp at c0
  have hn := h.few
  have hat : atI X s = if atN X s < X.length then ((atN X s : Nat) : Int) else -1 := rfl
  have hrow := Lib.hid h.row.nl
  have hle := atN_le X s
  unfold putC at hc ⊢
  obtain ⟨q, hq⟩ : ∃ q, q = atN X s := ⟨_, rfl⟩
  obtain ⟨n, hnn⟩ : ∃ n, n = X.length := ⟨_, rfl⟩
  rw [← hq, ← hnn] at hc hat
  rw [← hq, ← hnn]
  rw [← hnn] at c0 hn
  rw [← hv] at hc ⊢
  rw [← hq, ← hnn] at hle
  have HNN := Lib.hid hnn
  clear h hq hnn hv
  by_cases e1 : s.size < 1 ∨ 64 < s.size
  · rw [if_pos e1]
    have hA := Lib.hid hat
    obtain ⟨i, hi⟩ : ∃ i, i = atI X s := ⟨_, rfl⟩
    rw [← hi] at hR
    clear hat hc hA hi hrow HNN
    have e1' : s.size < 1 ∨ (¬ s.size < 1 ∧ 64 < s.size) := by omega
    rcases e1' with e1 | ⟨e1, e2⟩
    all_goals
      go_enter Tryz.func34, Tryz.ntmps34
      go_wp2_with fail
      refine hR.out.mono ?_
      rintro e w' ⟨rfl, rfl⟩
      go_wp2
      go_ret2
      exact ⟨rfl, rfl⟩
  rw [if_neg e1] at hc ⊢
  have g1 : ¬ s.size < 1 := by omega
  have g2 : ¬ 64 < s.size := by omega
  by_cases e2 : 3840 < vn
  · rw [if_pos e2]
    obtain ⟨i, hi⟩ : ∃ i, i = atI X s := ⟨_, rfl⟩
    rw [← hi] at hR
    clear hat hc hi hrow HNN e1
    go_enter Tryz.func34, Tryz.ntmps34
    go_wp2_with fail
    refine hR.out.mono ?_
    rintro e w' ⟨rfl, rfl⟩
    go_wp2
    go_ret2
    exact ⟨rfl, rfl⟩
  rw [if_neg e2] at hc ⊢
  by_cases hin : q < n
  · rw [if_pos hin] at hat
    rw [hat] at hR
    by_cases e3 : want = 0
    · rw [if_pos ⟨e3, hin⟩]
      have e3' : ((want : Int) == 0) = true := by simp; omega
      clear hat hc hrow HNN e1 e3
      go_enter Tryz.func34, Tryz.ntmps34
      go_wp2_with fail
      refine hR.out.mono ?_
      rintro e w' ⟨rfl, rfl⟩
      go_wp2
      go_ret2
      exact ⟨rfl, rfl⟩
    · rw [if_neg (by omega), if_neg (by omega)] at hc ⊢
      obtain ⟨b, off, rfl, p0, p1, p2, p3, _⟩ := hrow.out.at (i := q) (by have := HNN.out; omega)
      generalize (X.getD q default).t.ver = ver at p2 hc ⊢
      by_cases e5 : ver = want
      · exfalso
        rw [if_neg (by omega), if_neg (by omega)] at hc
        exact hc rfl
      · rw [if_pos ⟨hin, e5⟩]
        have e3' : ((want : Int) == 0) = false := by simp; omega
        have e3'' : ((want : Int) != 0) = true := by simp; omega
        have e5' : ((ver : Int) != (want : Int)) = true := by simp; omega
        clear hat hc hrow HNN e1 e3 e5 p0 p1 p3
        go_enter Tryz.func34, Tryz.ntmps34
        go_wp2_with fail
        refine hR.out.mono ?_
        rintro e w' ⟨rfl, rfl⟩
        go_wp2
        go_ret2
        exact ⟨rfl, rfl⟩
  · rw [if_neg hin] at hat
    rw [hat] at hR
    rw [if_neg (by omega)] at hc ⊢
    by_cases e4 : want = 0
    · rw [if_neg (by omega), if_neg (by omega)] at hc ⊢
      by_cases e6 : 256 ≤ n
      · rw [if_pos ⟨hin, e6⟩]
        have e3' : ((want : Int) == 0) = true := by simp; omega
        have e3'' : ((want : Int) != 0) = false := by simp; omega
        clear hat hc hrow HNN e1 e4
        go_enter Tryz.func34, Tryz.ntmps34
        go_wp2_with fail
        refine hR.out.mono ?_
        rintro e w' ⟨rfl, rfl⟩
        go_wp2
        go_ret2
        exact ⟨rfl, rfl⟩
      · exfalso
        rw [if_neg (by omega)] at hc
        exact hc rfl
    · rw [if_pos ⟨e4, hin⟩]
      have e3' : ((want : Int) == 0) = false := by simp; omega
      have e3'' : ((want : Int) != 0) = true := by simp; omega
      clear hat hc hrow HNN e1 e4
      go_enter Tryz.func34, Tryz.ntmps34
      go_wp2_with fail
      refine hR.out.mono ?_
      rintro e w' ⟨rfl, rfl⟩
      go_wp2
      go_ret2
      exact ⟨rfl, rfl⟩
end Go.Proofs.YtcbpppdmkhpkkaaGreat
/- The document's tree inside a greater block, at cell fo of block p: Put of a new key (Made by wip/mk-st.py out of XRtPut2.) -/
namespace Go.Proofs.YtcbpppdmkhpkkaaGreat
open Go.RowKit
set_option maxRecDepth 100000
/-- What Put leaves where it puts: the nodes X', as nodes L'. -/
def StPutEnd (w : World) (B p fo : Nat) (F : List Nat) (L' : List Nd) (ret : Nat) (e : Ending) (w' : World) : Prop :=
  e = .returned (.tuple #[.int .u64 (ret : Nat), .int .i64 0]) ∧ ∃ X', nds X' = L' ∧ StTo w w' B p fo F X'

set_option maxRecDepth 100000 in
set_option maxHeartbeats 2000000 in
theorem sput_new {w : World} {B p fo : Nat} {F : List Nat} {a : Option Addr} {cap : Nat} {X : List Nx} (s : ByteArray) (va : Option Addr) (vn vc : Nat) (v : List Nat) (own : Nat) (h : St w B p fo F a cap X) (hF : ∀ x ∈ F, x < w.heap.size) (hb : Bytes w va v) (hv : vn = v.length) (hvn : va = none → vc = 0)
    (hs1 : 1 ≤ s.size) (hs2 : s.size ≤ 64) (hv2 : v.length ≤ 3840) (hown : own < 18446744073709551616) (hout : ¬ atN X s < X.length) (hfew : X.length < 256) :
    Calls Tryz.prog 34 #[.pointer (some ⟨p, fo, none⟩), .string s, .slice va vn vc, .int .u64 0, .int .u64 (own : Nat)] w (StPutEnd w B p fo F (nds X ++ [⟨s, v, 1, own⟩]) 1) := by
  obtain ⟨i0, hi, hz0, hz1, hz2⟩ := info_parts Tryz.info58
  have HI := Lib.hid hi; clear hi
  have HZ0 := Lib.hid hz0; clear hz0
  have HZ1 := Lib.hid hz1; clear hz1
  have HZ2 := Lib.hid hz2; clear hz2
  obtain ⟨i1, hi, hz0, hz1, hz2⟩ := info_parts Tryz.info5
  have UI := Lib.hid hi; clear hi
  have UZ0 := Lib.hid hz0; clear hz0
  have UZ1 := Lib.hid hz1; clear hz1
  have UZ2 := Lib.hid hz2; clear hz2
  have hat : atI X s = -1 := by unfold atI; rw [if_neg hout]
  have hR := sat_any s h
  rw [hat] at hR
  have HR := Lib.hid hR; clear hR hat
  have hvn2 : vn ≤ 3840 := by omega
  obtain ⟨n, hnn⟩ : ∃ n, n = X.length := ⟨_, rfl⟩
  have hn : n < 256 := by omega
  have HH := Lib.hid h
  have HB := Lib.hid hb; clear hb
  have HV := Lib.hid hv; clear hv
  have HVN := Lib.hid hvn; clear hvn
  have HN := Lib.hid hnn
  have HPF : Hid (∀ x ∈ p :: F, x < w.heap.size) := Lib.hid fun x hx => by
    rcases List.mem_cons.1 hx with rfl | h1
    · exact HH.out.plt
    · exact hF x h1
  have HS2 := Lib.hid (show s.size ≤ 9223372036854775807 by omega)
  have HOWN := Lib.hid hown
  have cw := h.c0
  rw [← hnn] at cw
  try simp at cw
  clear h hF hnn hout hfew hv2
  go_enter Tryz.func34, Tryz.ntmps34
  go_wp2_with fail
  refine HR.out.mono ?_
  rintro e w' ⟨rfl, rfl⟩
  go_wp2_with (at_builtin; refine wpList_append_bytes rfl (.tmp 71) (.tmp 72) 36 rfl w.heap.size 5 i1 Tryz.underlying36 UI.out UZ0.out UZ1.out UZ2.out _ 0 [] rfl ?own1 _ _ _ v rfl ?b1 HV.out HVN.out ?fit1 ?base1 ?_)
  case own1 => exact World.ownsRow_lit w #[] 0 (Nat.le_refl _) (by unfold maxLen; omega) rfl
  case b1 => exact ((Frm.refl [] w).alloc _).bytes HB.out (by simp)
  case fit1 => omega
  case base1 => simp
  intro av cv w2 hown2 hg2
  have hf2 : Frm [] w w2 := ((Frm.refl [] w).alloc _).grown hg2 (fun k hk => .inr (by simp [Value.ownBlock] at hk; omega))
  have hbv := bytes_of_own hown2 HB.out.1
  have hlv : ∀ x, av = some x → w.heap.size ≤ x.block := fun x hx => (World.ownsRow.lt hown2 x.block (by rw [hx]; rfl)).1
  have c0 := ((hf2.cell (p := ⟨p, fo, none⟩) HH.out.plt (by simp)).trans HH.out.c0)
  rw [← HN.out] at c0
  try simp at c0
  have HF2 := Lib.hid hf2
  have HBV := Lib.hid hbv
  have HLV := Lib.hid hlv
  clear hg2 hown2 hf2 hbv hlv
  -- the nodes anew
  have hfl : Frm [] w2 (w2.alloc (.cells #[] 58)) := (Frm.refl _ _).alloc _
  have hwlit : (w2.alloc (.cells #[] 58)).ownsRow w.heap.size 58 4 (.slice (some ⟨w2.heap.size, 0, none⟩) 0 0) 0 (nc []) := World.ownsRow_lit w2 #[] 0 HF2.out.size (by unfold maxLen; omega) rfl
  have hff : Frm [] w (w2.alloc (.cells #[] 58)) := HF2.out.trans hfl (U := []) (by simp) (by simp)
  have OL : NOwn (w2.alloc (.cells #[] 58)) w.heap.size 58 (p :: F) (some ⟨w2.heap.size, 0, none⟩) 0 [] := ⟨hwlit, NOk.nil _ _, fun g hg hm => by
    simp at hg; subst hg; have h1 := HPF.out _ hm; have h2 := HF2.out.size; omega⟩
  have hvx := (HH.out.row.nl.keep (F' := p :: F) hff (by simp) (fun x h => .inl h)).vals
  have hokx : NOk (w2.alloc (.cells #[] 58)) (blk (some ⟨w2.heap.size, 0, none⟩) ++ (p :: F)) X := HH.out.row.nl.ok.keep hff (by simp) (fun x hx => by
    rcases List.mem_append.1 hx with h1 | h1
    · simp at h1; right; have := HF2.out.size; omega
    · exact .inl h1)
  have cl := ((hff.cell (p := ⟨p, fo, none⟩) HH.out.plt (by simp)).trans HH.out.c0)
  rw [← HN.out] at cl
  try simp at cl
  have HOL := Lib.hid OL
  have HWL := Lib.hid hwlit
  have HVX := Lib.hid hvx
  have HOX := Lib.hid hokx
  have HFF := Lib.hid hff
  have hlx : (nc X).length = n * 4 := by rw [nc_length, HN.out]
  have HLX := Lib.hid hlx
  have hfit0 : 0 + n ≤ 1000000000 := by omega
  clear hfl hwlit hff OL hvx hokx hlx
  go_wp2_with (at_builtin; refine wpList_appS (by rfl) (.tmp 77) (.tmp 81) 28 rfl w.heap.size 58 i0 (.agg #[.string ⟨#[]⟩, .slice none 0 0, .int .u64 0, .int .u64 0]) 4 56 Tryz.underlying28 HI.out HZ0.out rfl (by decide) HZ1.out HZ2.out (by decide) (.slice (some ⟨w2.heap.size, 0, none⟩) 0 0) 0 _ rfl HWL.out _ n cap _ rfl HVX.out HLX.out (nc_one _) HH.out.row.caps.2.2 hfit0 HFF.out.size ?_)
  intro a3 c3 w3 happ
  obtain ⟨g1, g2, g3, g4⟩ := HOL.out.app rfl HOX.out HN.out (fun x hx => Nat.lt_of_lt_of_le (HPF.out x hx) HFF.out.size) happ
  rw [List.nil_append] at g1
  have hf3 : Frm [] w2 w3 := ((Frm.refl [] w2).alloc (.cells #[] 58)).trans g2 (U := []) (by simp) (fun x hx => .inr (by simp at hx; omega))
  have HF3 := Lib.hid (HF2.out.trans hf3 (U := []) (by simp) (by simp))
  have HBV3 := Lib.hid (hf3.bytes HBV.out.2.1 (by simp))
  have hg3 : ∀ x ∈ blk a3, w2.heap.size ≤ x := fun x hx => by
    rcases g3 x hx with h1 | h1
    · simp at h1; omega
    · simp at h1; omega
  have HLT : Hid (∀ x, av = some x → v ≠ [] → x.block < w2.heap.size) := Lib.hid fun x hx hne => bytes_lt HBV.out.2.1 hne x hx
  have HG3 := Lib.hid hg3
  have HO3 := Lib.hid g1
  clear happ g1 g2 g3 g4 hf3 hg3 HOL HWL HVX HOX HFF HLX hfit0
  -- one more
  obtain ⟨w4, hw4⟩ : ∃ w4, w4 = w3.alloc (.cells #[.string s, .slice av vn cv, .int .u64 1, .int .u64 (own : Nat)] 58) := ⟨_, rfl⟩
  have hf4 : Frm [] w3 w4 := by rw [hw4]; exact (Frm.refl _ _).alloc _
  have hv4 : ValsAt w4 (some ⟨w3.heap.size, 0, none⟩) (nc [⟨⟨s, v, 1, own⟩, av, cv⟩]) := by
    rw [hw4, HV.out]; exact nvals_one w3 ⟨⟨s, v, 1, own⟩, av, cv⟩ _
  have ho4 := HO3.out.keep (F' := p :: F) hf4 (by simp) (fun x h => .inl h)
  have hok4 : NOk w4 (blk a3 ++ (p :: F)) [⟨⟨s, v, 1, own⟩, av, cv⟩] := fun y hy => by
    simp at hy
    subst hy
    refine ⟨hf4.bytes HBV3.out (by simp), fun hne x hx hm => ?_, HBV.out.2.2, by show (1 : Nat) < _; omega, HOWN.out, HS2.out⟩
    have h1 := HLT.out x hx hne
    have h2 := HLV.out x hx
    rcases List.mem_append.1 hm with h | h
    · have := HG3.out _ h; omega
    · have := HPF.out _ h; omega
  have hown4 := ho4.own
  rw [← HN.out] at hown4
  have HO4 := Lib.hid ho4
  have HW4 := Lib.hid hown4
  have HV4 := Lib.hid hv4
  have HK4 := Lib.hid hok4
  have HF4 := Lib.hid (HF3.out.trans hf4 (U := []) (by simp) (by simp))
  have HWW := Lib.hid hw4
  have hfit1 : n + 1 ≤ 1000000000 := by omega
  clear hw4 hf4 hv4 ho4 hok4 hown4 HO3 HG3 HBV3
  go_wp2_with (at_builtin; rw [← HWW.out]; refine wpList_appS (by rfl) (.tmp 82) (.tmp 87) 28 rfl w.heap.size 58 i0 (.agg #[.string ⟨#[]⟩, .slice none 0 0, .int .u64 0, .int .u64 0]) 4 56 Tryz.underlying28 HI.out HZ0.out rfl (by decide) HZ1.out HZ2.out (by decide) (.slice a3 n c3) n _ rfl HW4.out _ 1 1 _ rfl HV4.out rfl (nc_one _) (fun h => by cases h) hfit1 HF4.out.size ?_)
  intro a5 c5 w5 happ
  obtain ⟨g1, g2, g3, g4⟩ := HO4.out.app HN.out HK4.out rfl (fun x hx => Nat.lt_of_lt_of_le (HPF.out x hx) HF4.out.size) happ
  have hf5 := HF4.out.trans g2 (U := []) (by simp) (fun x hx => .inr (HO4.out.blk_lt x hx).1)
  have hl5 : (X ++ [(⟨⟨s, v, 1, own⟩, av, cv⟩ : Nx)]).length = n + 1 := by rw [List.length_append, ← HN.out]; rfl
  have hst := St.store HH.out hf5 g1 (by rw [hl5]; omega)
  rw [hl5] at hst
  have HST := Lib.hid hst
  have f0 := ((hf5.frozen (p := ⟨p, fo, none⟩) HH.out.plt (by simp)).trans (HH.out.free fo))
  have c5 := ((hf5.cell (p := ⟨p, fo, none⟩) HH.out.plt (by simp)).trans HH.out.c0)
  rw [← HN.out] at c5
  try simp at c5
  clear happ g1 g2 g3 g4 hst hf5 hl5
  go_wp2
  go_ret2
  exact ⟨rfl, _, by simp [nds], HST.out⟩
end Go.Proofs.YtcbpppdmkhpkkaaGreat
/- The document's tree inside a greater block, at cell fo of block p: Put of an old key (Made by wip/mk-st.py out of XRtPut3.) -/
namespace Go.Proofs.YtcbpppdmkhpkkaaGreat
open Go.RowKit
set_option maxRecDepth 100000
set_option maxRecDepth 100000 in
set_option maxHeartbeats 2000000 in
theorem sput_old {w : World} {B p fo : Nat} {F : List Nat} {a : Option Addr} {cap : Nat} {X : List Nx} (s : ByteArray) (va : Option Addr) (vn vc : Nat) (v : List Nat) (want own q nv : Nat) (h : St w B p fo F a cap X) (hF : ∀ x ∈ F, x < w.heap.size) (hb : Bytes w va v) (hv : vn = v.length) (hvn : va = none → vc = 0)
    (hs1 : 1 ≤ s.size) (hs2 : s.size ≤ 64) (hv2 : v.length ≤ 3840) (hw0 : want ≠ 0) (_hw : want < 18446744073709551616) (hq : q = atN X s) (hin : q < X.length) (hver : (X.getD q default).t.ver = want) (hnv : nv = (want + 1) % 18446744073709551616) :
    Calls Tryz.prog 34 #[.pointer (some ⟨p, fo, none⟩), .string s, .slice va vn vc, .int .u64 (want : Nat), .int .u64 (own : Nat)] w (StPutEnd w B p fo F ((nds X).set q ⟨s, v, nv, (X.getD q default).t.own⟩) nv) := by
  obtain ⟨i0, hi, hz0, hz1, hz2⟩ := info_parts Tryz.info58
  have HI := Lib.hid hi; clear hi
  have HZ0 := Lib.hid hz0; clear hz0
  have HZ1 := Lib.hid hz1; clear hz1
  have HZ2 := Lib.hid hz2; clear hz2
  obtain ⟨i1, hi, hz0, hz1, hz2⟩ := info_parts Tryz.info5
  have UI := Lib.hid hi; clear hi
  have UZ0 := Lib.hid hz0; clear hz0
  have UZ1 := Lib.hid hz1; clear hz1
  have UZ2 := Lib.hid hz2; clear hz2
  have hat : atI X s = (q : Int) := by unfold atI; rw [← hq, if_pos hin]
  have hR := sat_any s h
  rw [hat] at hR
  have HR := Lib.hid hR; clear hR hat
  have hvn2 : vn ≤ 3840 := by omega
  obtain ⟨n, hnn⟩ : ∃ n, n = X.length := ⟨_, rfl⟩
  have hn : n ≤ 256 := by have := h.few; omega
  have hqn : q < n := by omega
  have hkey : (X.getD q default).t.k = s := by rw [hq]; exact atN_key (by rw [← hq]; exact hin)
  obtain ⟨xo, hxo⟩ : ∃ xo, xo = (X.getD q default).t.own := ⟨_, rfl⟩
  have hxo2 := (h.row.nl.ok (X.getD q default) (by simp [hin])).own
  rw [← hxo] at hxo2 ⊢
  have HH := Lib.hid h
  have HB := Lib.hid hb; clear hb
  have HV := Lib.hid hv; clear hv
  have HVN := Lib.hid hvn; clear hvn
  have HN := Lib.hid hnn
  have HPF : Hid (∀ x ∈ p :: F, x < w.heap.size) := Lib.hid fun x hx => by
    rcases List.mem_cons.1 hx with rfl | h1
    · exact HH.out.plt
    · exact hF x h1
  have HS2 := Lib.hid (show s.size ≤ 9223372036854775807 by omega)
  have HKEY := Lib.hid hkey
  have HXO := Lib.hid hxo
  have HXO2 := Lib.hid hxo2
  have hw1 : ((want : Int) == 0) = false := by simp; omega
  have hw2 : ((want : Int) != 0) = true := by simp; omega
  have hw3 : ((want : Int) != (want : Int)) = false := by simp
  have hnv2 : ((want : Int) + 1) % 18446744073709551616 = (nv : Int) := by omega
  have hnv3 : IntKind.u64.wrap ((want : Int) + 1) = (nv : Int) := by rw [← hnv2]; rfl
  have hnv4 : nv < 18446744073709551616 := by omega
  have HNV4 := Lib.hid hnv4
  have cw := h.c0
  rw [← hnn] at cw
  try simp at cw
  obtain ⟨b, off, hab, _, _, p2, _, _⟩ := h.row.nl.at hin
  rw [hver] at p2
  have HAB := Lib.hid hab
  have cw2 := cw
  rw [hab] at cw2
  have HCW := Lib.hid cw
  clear h hF hnn hin hv2 hver hnv hkey hxo hxo2 hq cw hab hw0 hnv4
  go_enter Tryz.func34, Tryz.ntmps34
  go_wp2_with fail
  refine HR.out.mono ?_
  rintro e w' ⟨rfl, rfl⟩
  go_wp2_with (at_builtin; refine wpList_append_bytes rfl (.tmp 71) (.tmp 72) 36 rfl w.heap.size 5 i1 Tryz.underlying36 UI.out UZ0.out UZ1.out UZ2.out _ 0 [] rfl ?own1 _ _ _ v rfl ?b1 HV.out HVN.out ?fit1 ?base1 ?_)
  case own1 => exact World.ownsRow_lit w #[] 0 (Nat.le_refl _) (by unfold maxLen; omega) rfl
  case b1 => exact ((Frm.refl [] w).alloc _).bytes HB.out (by simp)
  case fit1 => omega
  try (case base1 => simp)
  intro av cv w2 hown2 hg2
  have hf2 : Frm [] w w2 := ((Frm.refl [] w).alloc _).grown hg2 (fun k hk => .inr (by simp [Value.ownBlock] at hk; omega))
  have hbv := bytes_of_own hown2 HB.out.1
  have hlv : ∀ x, av = some x → w.heap.size ≤ x.block := fun x hx => (World.ownsRow.lt hown2 x.block (by rw [hx]; rfl)).1
  have c0 := ((hf2.cell (p := ⟨p, fo, none⟩) HH.out.plt (by simp)).trans HH.out.c0)
  rw [← HN.out] at c0
  try simp at c0
  have HF2 := Lib.hid hf2
  have HBV := Lib.hid hbv
  have HLV := Lib.hid hlv
  clear hg2 hown2 hf2 hbv hlv
  have hfl : Frm [] w2 (w2.alloc (.cells #[] 58)) := (Frm.refl _ _).alloc _
  have hwlit : (w2.alloc (.cells #[] 58)).ownsRow w.heap.size 58 4 (.slice (some ⟨w2.heap.size, 0, none⟩) 0 0) 0 (nc []) := World.ownsRow_lit w2 #[] 0 HF2.out.size (by unfold maxLen; omega) rfl
  have hff : Frm [] w (w2.alloc (.cells #[] 58)) := HF2.out.trans hfl (U := []) (by simp) (by simp)
  have OL : NOwn (w2.alloc (.cells #[] 58)) w.heap.size 58 (p :: F) (some ⟨w2.heap.size, 0, none⟩) 0 [] := ⟨hwlit, NOk.nil _ _, fun g hg hm => by
    simp at hg; subst hg; have h1 := HPF.out _ hm; have h2 := HF2.out.size; omega⟩
  have hvx := (HH.out.row.nl.keep (F' := p :: F) hff (by simp) (fun x h => .inl h)).vals
  have hokx : NOk (w2.alloc (.cells #[] 58)) (blk (some ⟨w2.heap.size, 0, none⟩) ++ (p :: F)) X := HH.out.row.nl.ok.keep hff (by simp) (fun x hx => by
    rcases List.mem_append.1 hx with h1 | h1
    · simp at h1; right; have := HF2.out.size; omega
    · exact .inl h1)
  have cl := ((hff.cell (p := ⟨p, fo, none⟩) HH.out.plt (by simp)).trans HH.out.c0)
  rw [← HN.out] at cl
  try simp at cl
  have HOL := Lib.hid OL
  have HWL := Lib.hid hwlit
  have HVX := Lib.hid hvx
  have HOX := Lib.hid hokx
  have HFF := Lib.hid hff
  have hlx : (nc X).length = n * 4 := by rw [nc_length, HN.out]
  have HLX := Lib.hid hlx
  have hfit0 : 0 + n ≤ 1000000000 := by omega
  clear hfl hwlit hff OL hvx hokx hlx
  go_wp2_with (at_builtin; refine wpList_appS (by rfl) (.tmp 91) (.tmp 95) 28 rfl w.heap.size 58 i0 (.agg #[.string ⟨#[]⟩, .slice none 0 0, .int .u64 0, .int .u64 0]) 4 56 Tryz.underlying28 HI.out HZ0.out rfl (by decide) HZ1.out HZ2.out (by decide) (.slice (some ⟨w2.heap.size, 0, none⟩) 0 0) 0 _ rfl HWL.out _ n cap _ rfl HVX.out HLX.out (nc_one _) HH.out.row.caps.2.2 hfit0 HFF.out.size ?_)
  intro a3 c3 w3 happ
  obtain ⟨g1, g2, g3, g4⟩ := HOL.out.app rfl HOX.out HN.out (fun x hx => Nat.lt_of_lt_of_le (HPF.out x hx) HFF.out.size) happ
  rw [List.nil_append] at g1
  have hf3 : Frm [] w2 w3 := ((Frm.refl [] w2).alloc (.cells #[] 58)).trans g2 (U := []) (by simp) (fun x hx => .inr (by simp at hx; omega))
  have hg3 : ∀ x ∈ blk a3, w2.heap.size ≤ x := fun x hx => by
    rcases g3 x hx with h1 | h1
    · simp at h1; omega
    · simp at h1; omega
  have hF3 := HF2.out.trans hf3 (U := []) (by simp) (by simp)
  obtain ⟨g, rfl⟩ : ∃ g, a3 = some ⟨g, 0, none⟩ := by
    rcases g1.own.2 with ⟨_, h0⟩ | ⟨g, _, _, hv, _⟩
    · exfalso; have := HN.out; omega
    · simp only [Value.slice.injEq] at hv
      exact ⟨g, hv.1⟩
  have hgp : p ≠ g := by
    have h1 := hg3 g (by simp)
    have h2 := HPF.out p (by simp)
    have h3 := HF2.out.size
    omega
  have hrow := g1.own
  have e1 := World.ownsRow.cellAt hrow (q * 4 + 1) (by have := HN.out; omega)
  have e2 := World.ownsRow.cellAt hrow (q * 4 + 2) (by have := HN.out; omega)
  obtain ⟨_, n1, n2, _⟩ := nc_at X q (by have := HN.out; omega)
  rw [n1] at e1
  rw [n2] at e2
  have z1 := World.ownsRow.frozenAt hrow (q * 4 + 1)
  have z2 := World.ownsRow.frozenAt hrow (q * 4 + 2)
  obtain ⟨o1, _⟩ := World.ownsRow.stored hrow (q * 4 + 1) (.slice av vn cv)
  obtain ⟨o2, _⟩ := World.ownsRow.stored o1 (q * 4 + 2) (.int .u64 (nv : Nat))
  obtain ⟨w5, hw5⟩ : ∃ w5, w5 = (w3.setCell ⟨g, q * 4 + 1, none⟩ (.slice av vn cv)).setCell ⟨g, q * 4 + 2, none⟩ (.int .u64 (nv : Nat)) := ⟨_, rfl⟩
  have hbg : w.heap.size ≤ g := (g1.blk_lt g (by simp)).1
  have hf5 : Frm [g] w3 w5 := by rw [hw5]; exact ((Frm.refl _ _).setCell (.inl (by simp)) _).setCell (.inl (by simp)) _
  have hF5 : Frm [] w w5 := hF3.trans hf5 (by simp) (fun x hx => .inr (by simp at hx; omega))
  rw [← hw5] at o2
  have hset := nc_set X ⟨⟨s, v, nv, xo⟩, av, cv⟩ q (by have := HN.out; omega) HKEY.out.symm HXO.out
  rw [show (⟨⟨s, v, nv, xo⟩, av, cv⟩ : Nx).t.v.length = vn from HV.out.symm] at hset
  have hN5 : NOwn w5 w.heap.size 58 (p :: F) (some ⟨g, 0, none⟩) c3 (X.set q ⟨⟨s, v, nv, xo⟩, av, cv⟩) := by
    refine ⟨?_, fun y hy => ?_, g1.away⟩
    · rw [hset, List.length_set]; exact o2
    · rcases List.mem_or_eq_of_mem_set hy with h1 | h1
      · exact (g1.ok y h1).keep hf5 (fun x hx => .inl (by simp at hx; simp [hx])) (fun x hx => .inl hx)
      · subst h1
        have hv3 := hf3.bytes HBV.out.2.1 (by simp)
        have hav : v ≠ [] → ∀ x, av = some x → x.block ∉ blk (some ⟨g, 0, none⟩) ++ (p :: F) := fun hne x hx hm => by
          have h1 := bytes_lt HBV.out.2.1 hne x hx
          have h2 := HLV.out x hx
          rcases List.mem_append.1 hm with h | h
          · have := hg3 _ h; omega
          · have := HPF.out _ h; omega
        exact ⟨hf5.bytes' hv3 (fun hne x hx hm => hav hne x hx (by simp at hm; simp [hm])), hav, HBV.out.2.2, HNV4.out, HXO2.out, HS2.out⟩
  have hst := St.store HH.out hF5 hN5 (by rw [List.length_set]; have := HN.out; omega)
  rw [List.length_set, ← HN.out] at hst
  have HST := Lib.hid hst
  have k0 := ((hF5.cell (p := ⟨p, fo, none⟩) HH.out.plt (by simp)).trans HH.out.c0)
  have k1 := ((hF5.frozen (p := ⟨p, fo, none⟩) HH.out.plt (by simp)).trans (HH.out.free fo))
  rw [← HN.out] at k0
  try simp at k0
  rw [hw5] at k0 k1
  have HW5 := Lib.hid hw5
  have hqi : 0 ≤ (q : Int) := by omega
  clear happ g1 g2 g3 g4 hf3 hg3 hF3 hrow n1 n2 o1 o2 hf5 hF5 hset hN5 hst hw5 HOL HWL HVX HOX HFF HLX hfit0 cl c0
  go_wp2
  go_ret2
  rw [← HW5.out]
  exact ⟨rfl, _, nds_set _ _ _, HST.out⟩

end Go.Proofs.YtcbpppdmkhpkkaaGreat
/- The document's tree inside a greater block, at cell fo of block p: List (Made by wip/mk-st.py out of XRtList.) -/
namespace Go.Proofs.YtcbpppdmkhpkkaaGreat
open Go.RowKit
set_option maxRecDepth 100000
set_option maxRecDepth 100000 in
set_option maxHeartbeats 4000000 in
theorem slist_any {w : World} {B p fo : Nat} {F : List Nat} {a : Option Addr} {cap : Nat} {X : List Nx} (P : ByteArray) (h : St w B p fo F a cap X) (hF : ∀ x ∈ F, x < w.heap.size) (_hP : P.size ≤ 9223372036854775807) :
    Calls Tryz.prog 20 #[.pointer (some ⟨p, fo, none⟩), .string P] w (ListEnd w p F (lsN P X)) := by
  obtain ⟨i0, hi, hz0, hz1, hz2⟩ := info_parts Tryz.info58
  have HI := Lib.hid hi; clear hi
  have HZ0 := Lib.hid hz0; clear hz0
  have HZ1 := Lib.hid hz1; clear hz1
  have HZ2 := Lib.hid hz2; clear hz2
  have hn := h.few
  have HH := Lib.hid h; clear h
  have HPF : Hid (∀ x ∈ p :: F, x < w.heap.size) := Lib.hid fun x hx => by
    rcases List.mem_cons.1 hx with rfl | h1
    · exact HH.out.plt
    · exact hF x h1
  clear hF
  obtain ⟨n, hnn⟩ : ∃ n, n = X.length := ⟨_, rfl⟩
  rw [← hnn] at hn
  have HN := Lib.hid hnn; clear hnn
  go_enter Tryz.func20, Tryz.ntmps20
  go_wp2
  go_loopw [5, 6] (fun u5 u6 wr => LsRel w p F P X u5 u6 wr) (fun _ u6 _ => n - (intOf u6).toNat)
  case atStart => exact ⟨0, none, 0, Nat.zero_le _, rfl, rfl, NOwn.nil _ _ _ _, Frm.refl _ _⟩
  case round =>
    obtain ⟨k, a', c', hk, rfl, rfl, hown, hf⟩ := hrel
    have HO := Lib.hid hown; clear hown
    have HF := Lib.hid hf; clear hf
    have c0 := ((HF.out.cell (p := ⟨p, fo, none⟩) HH.out.plt (by simp)).trans HH.out.c0)
    rw [← HN.out] at c0
    try simp at c0
    have hYk := lsN_len P X k hk
    by_cases hlt : k < n
    · have hkL : k < X.length := by have := HN.out; omega
      obtain ⟨b, off, rfl, p0, p1, p2, p3, _⟩ := (HH.out.row.nl.keep (F' := p :: F) HF.out (by simp) (fun x h => .inl h)).at hkL
      have hst := lsN_take (P := P) hkL
      have hok := HH.out.row.nl.ok (X.getD k default) (by simp [hkL])
      obtain ⟨Y, hY⟩ : ∃ Y, Y = lsN P (X.take k) := ⟨_, rfl⟩
      rw [← hY] at HO hst hYk ⊢
      obtain ⟨m, hm⟩ : ∃ m, m = Y.length := ⟨_, rfl⟩
      rw [← hm] at hYk ⊢
      have HM := Lib.hid hm; clear hm
      obtain ⟨x, hx⟩ : ∃ x, x = X.getD k default := ⟨_, rfl⟩
      rw [← hx] at p0 p1 p2 p3 hst hok
      obtain ⟨⟨xk, xv, xver, xown⟩, xa, xc⟩ := x
      simp only at p0 p1 p2 p3 hst
      obtain ⟨xm, hxm⟩ : ∃ xm, xm = xv.length := ⟨_, rfl⟩
      rw [← hxm] at p1
      have HKL := Lib.hid hkL
      have HST := Lib.hid hst
      have HOK := Lib.hid hok
      have HXM := Lib.hid hxm
      clear hx hst hok hxm hkL hY hk
      by_cases hsz : xk.size < P.size
      · have hpb : preB P xk = false := by unfold preB; rw [decide_eq_false (by omega)]; rfl
        have hs2 := HST.out
        rw [hpb, if_neg (by simp)] at hs2
        have HS2 := Lib.hid hs2
        clear hs2 hpb
        go_wp2
        go_round
        case rel => exact ⟨k + 1, a', c', HKL.out, by rw [HS2.out, ← HM.out], by go_num, by rw [HS2.out]; exact HO.out, HF.out⟩
        case measure => simp [intOf]; omega
      · have hsz2 : P.size ≤ xk.size := by omega
        by_cases hpre : ((xk.extract 0 P.size).toList == P.toList) = true
        · have hpb : preB P xk = true := by unfold preB; rw [decide_eq_true hsz2, hpre]; rfl
          have hs2 := HST.out
          rw [hpb, if_pos rfl] at hs2
          have hs3 : (ins ⟨⟨xk, xv, xver, xown⟩, xa, xc⟩ Y) = Y.take (pos Y xk) ++ ([⟨⟨xk, xv, xver, xown⟩, xa, xc⟩] ++ Y.drop (pos Y xk)) := rfl
          rw [hs3] at hs2
          have hpl := pos_le Y xk
          have HPB := Lib.hid (fun j h => pos_before (Y := Y) (K := xk) (j := j) h)
          have HPA := Lib.hid (fun h => pos_at (Y := Y) (K := xk) h)
          obtain ⟨q, hq⟩ : ∃ q, q = pos Y xk := ⟨_, rfl⟩
          rw [← hq] at hs2 hpl HPB HPA
          have hqm : q ≤ m := by rw [HM.out]; exact hpl
          have HS2 := Lib.hid hs2
          clear hs2 hs3 hpl hq hpb HST
          go_wp2
          go_loop [8] (fun u8 => ∃ j : Nat, j ≤ q ∧ u8 = .int .i64 (j : Nat)) (fun u8 => m - (intOf u8).toNat)
          case atStart => exact ⟨0, Nat.zero_le _, rfl⟩
          case round =>
            obtain ⟨j, hj, rfl⟩ := hrel
            by_cases hjq : j < q
            · obtain ⟨b2, o2, rfl, y0, _⟩ := (HO.out.nl).at (i := j) (by have := HM.out; omega)
              have hless : Op.bytesLess (Y.getD j default).t.k.toList xk.toList = true := HPB.out j hjq
              generalize (Y.getD j default).t.k = yk at y0 hless
              have hjm : j < m := by omega
              go_wp2
              go_round
              case rel => exact ⟨j + 1, by omega, by go_num⟩
              case measure => simp [intOf]; omega
            · obtain rfl : j = q := by omega
              have hcap : m ≤ c' := by rw [HM.out]; exact HO.out.caps.1
              have hcut1 := fun w => run_head4m Tryz.underlying28 sizeN w a' m c' j j (Nat.le_refl _) (by omega)
              have hcut2 := fun w => run_cut4 (P := Tryz.prog) Tryz.underlying28 sizeN w a' m c' j (j : Int) rfl hqm
              have V1 := Lib.hid (fun (z : World) (hz : Frm [] wr z) => ((HO.out.nl.take j).keep (F' := p :: F) hz (by simp) (fun x h => .inl h)).vals)
              have V2 := Lib.hid (fun (z : World) (hz : Frm [] wr z) => ((HO.out.nl.drop (by rw [← HM.out]; exact hcap) j).keep (F' := p :: F) hz (by simp) (fun x h => .inl h)).vals)
              have hcn : cut4 a' c' j = none → c' - j = 0 := fun h0 => by
                have h1 := HO.out.caps.2.2
                unfold cut4 at h0
                split at h0
                · omega
                · have := h1 (by simpa using h0); omega
              have han : a' = none → j = 0 := fun h0 => by have := HO.out.caps.2.2 h0; omega
              obtain ⟨a2, ha2⟩ : ∃ a2, a2 = cut4 a' c' j := ⟨_, rfl⟩
              obtain ⟨n2, hn2⟩ : ∃ n2, n2 = m - j := ⟨_, rfl⟩
              obtain ⟨c2, hc2⟩ : ∃ c2, c2 = c' - j := ⟨_, rfl⟩
              rw [← ha2, ← hn2, ← hc2] at hcut2
              rw [← ha2] at V2 hcn
              rw [← hc2] at hcn
              have HCN := Lib.hid hcn
              have HAN := Lib.hid han
              have hl1 : (nc (Y.take j)).length = j * 4 := by rw [nc_length, List.length_take, ← HM.out, Nat.min_eq_left hqm]
              have hl2 : (nc (Y.drop j)).length = n2 * 4 := by rw [nc_length, List.length_drop, ← HM.out, hn2]
              have HL1 := Lib.hid hl1
              have HL2 := Lib.hid hl2
              have hfit1 : 1 + n2 ≤ 1000000000 := by omega
              have hfit2 : j + (1 + n2) ≤ 1000000000 := by omega
              have hpos : 0 < 1 + n2 := by omega
              have hsum : j + (1 + n2) = m + 1 := by omega
              have HSUM := Lib.hid hsum
              have HL12 : Hid ((nc [⟨⟨xk, xv, xver, xown⟩, xa, xc⟩] ++ nc (Y.drop j)).length = (1 + n2) * 4) := Lib.hid (by rw [List.length_append, hl2, nc_length, List.length_singleton]; omega)
              have HONE : Hid (∀ u ∈ nc [⟨⟨xk, xv, xver, xown⟩, xa, xc⟩] ++ nc (Y.drop j), u.oneCell' = true) := Lib.hid (fun u hu => (List.mem_append.1 hu).elim (nc_one _ u) (nc_one _ u))
              have HC := Lib.hid hcap
              have f00 : Frm [] wr (wr.alloc (.cells #[.string xk, .slice xa xm xc, .int .u64 (xver : Nat), .int .u64 (xown : Nat)] 58)).drew := ((Frm.refl [] wr).alloc _).drew
              have LIT : Hid ((wr.alloc (.cells #[.string xk, .slice xa xm xc, .int .u64 (xver : Nat), .int .u64 (xown : Nat)] 58)).drew.ownsRow w.heap.size 58 4 (.slice (some ⟨wr.heap.size, 0, none⟩) 1 1) 1 (nc [⟨⟨xk, xv, xver, xown⟩, xa, xc⟩])) := Lib.hid (by
                have h1 : (wr.alloc (.cells #[.string xk, .slice xa xm xc, .int .u64 (xver : Nat), .int .u64 (xown : Nat)] 58)).ownsRow w.heap.size 58 4 (.slice (some ⟨wr.heap.size, 0, none⟩) 1 1) 1 (nc [⟨⟨xk, xv, xver, xown⟩, xa, xc⟩]) := by
                  rw [HXM.out]; exact World.ownsRow_lit wr _ 1 HF.out.size (by unfold maxLen; omega) rfl
                exact h1)
              clear ha2 hn2 hc2 hcn han hl1 hl2 hsum hjq hcap
              have hcase : (¬ j < m) ∨ (j < m ∧ ∃ b2 o2 yk, a' = some ⟨b2, o2, none⟩ ∧ wr.cell? ⟨b2, o2 + j * 4, none⟩ = some (.string yk) ∧ Op.bytesLess yk.toList xk.toList = false) := by
                rcases Nat.lt_or_ge j m with h | h
                · obtain ⟨b2, o2, e, y0, _⟩ := (HO.out.nl).at (i := j) (by have := HM.out; omega)
                  exact .inr ⟨h, b2, o2, _, e, y0, HPA.out (by have := HM.out; omega)⟩
                · exact .inl (by omega)
              rcases hcase with hjm | ⟨hjm, b2, o2, yk, rfl, y0, hless⟩
              all_goals
                go_wp2
                go_region_law (first
                  | (refine step_appS (by rfl) (.tmp 65) (.tmp 68) 28 rfl w.heap.size 58 i0 (.agg #[.string ⟨#[]⟩, .slice none 0 0, .int .u64 0, .int .u64 0]) 4 56 Tryz.underlying28 HI.out HZ0.out rfl (by decide) HZ1.out HZ2.out (by decide) (.slice (some ⟨wr.heap.size, 0, none⟩) 1 1) 1 _ rfl LIT.out _ n2 c2 _ rfl (V2.out _ f00) HL2.out (nc_one _) HCN.out hfit1 (Nat.le_trans HF.out.size f00.size) (1 + n2) rfl ?_; intro a3 c3 w3 happ3; have A3 := Lib.hid happ3; clear happ3; have f3 : Frm [] wr w3 := f00.grown A3.out.grown (fun g hg => .inr (by simp [Value.ownBlock] at hg; omega)); have O3 := Lib.hid (own_vals A3.out.own))
                  | (refine step_appT (by rfl) (.tmp 57) (.tmp 69) 28 rfl w.heap.size 58 i0 (.agg #[.string ⟨#[]⟩, .slice none 0 0, .int .u64 0, .int .u64 0]) 4 56 Tryz.underlying28 HI.out HZ0.out rfl (by decide) HZ1.out HZ2.out (by decide) _ j _ rfl (V1.out _ f3) HL1.out _ (1 + n2) c3 _ rfl O3.out HL12.out HONE.out hpos hfit2 (Nat.le_trans HF.out.size f3.size) HAN.out (m + 1) HSUM.out ?_; intro a4 c4 w4 h4 f34 g4; have H4 := Lib.hid h4; have F34 := Lib.hid f34; have G4 := Lib.hid g4; clear h4 f34 g4))
              all_goals
                have hf4 : Frm [] wr w4 := f3.trans F34.out (by simp) (by simp)
                have hb4 : ∀ g ∈ blk a4, wr.heap.size ≤ g := fun g hg => Nat.le_trans f3.size (G4.out g hg)
                have hown4 : NOwn w4 w.heap.size 58 (p :: F) a4 c4 (Y.take j ++ ([⟨⟨xk, xv, xver, xown⟩, xa, xc⟩] ++ Y.drop j)) := by
                  have hlen : (Y.take j ++ ([(⟨⟨xk, xv, xver, xown⟩, xa, xc⟩ : Nx)] ++ Y.drop j)).length = m + 1 := by
                    have h1 := HM.out
                    simp; omega
                  refine ⟨by rw [hlen, nc_append, nc_append]; exact H4.out, fun y hy => ?_, fun g hg hm => by have h1 := hb4 g hg; have h2 := HPF.out g hm; have h3 := HF.out.size; omega⟩
                  have hsub : ∀ z ∈ blk a4 ++ (p :: F), z ∈ (p :: F) ∨ wr.heap.size ≤ z := fun z hz => by
                    rcases List.mem_append.1 hz with h1 | h1
                    · exact .inr (hb4 z h1)
                    · exact .inl h1
                  rcases List.mem_append.1 hy with h1 | h1
                  · exact (HO.out.nl.ok y (List.mem_of_mem_take h1)).keep hf4 (by simp) hsub
                  · rcases List.mem_append.1 h1 with h2 | h2
                    · simp at h2; subst h2
                      exact (HOK.out.keep (F' := p :: F) HF.out (by simp) (fun x h => .inl h)).keep hf4 (by simp) hsub
                    · exact (HO.out.nl.ok y (List.mem_of_mem_drop h2)).keep hf4 (by simp) hsub
                have HREL : Hid (LsRel w p F P X (.slice a4 (m + 1) c4) (.int .i64 ((k + 1 : Nat) : Int)) w4) := Lib.hid (by
                  refine ⟨k + 1, a4, c4, HKL.out, ?_, rfl, by rw [HS2.out]; exact hown4, HF.out.trans hf4 (U := []) (by simp) (by simp)⟩
                  rw [HS2.out]
                  have h1 := HM.out
                  congr 1
                  simp; omega)
                clear hf4 hb4 hown4 A3 O3 H4 F34 G4 f3
                go_wp2
                go_roundw
                case rel => exact HREL.out
                case measure => simp [intOf]; omega
        · have hpb : preB P xk = false := by
            unfold preB
            have : ((xk.extract 0 P.size).toList == P.toList) = false := by simpa using hpre
            rw [this, Bool.and_false]
          have hs2 := HST.out
          rw [hpb, if_neg (by simp)] at hs2
          have HS2 := Lib.hid hs2
          have hpre2 : ((xk.extract 0 P.size).toList == P.toList) = false := by simpa using hpre
          clear hs2 hpb hpre
          go_wp2
          go_round
          case rel => exact ⟨k + 1, a', c', HKL.out, by rw [HS2.out, ← HM.out], by go_num, by rw [HS2.out]; exact HO.out, HF.out⟩
          case measure => simp [intOf]; omega
    · have hkx : X.take k = X := List.take_of_length_le (by have := HN.out; omega)
      have ho := HO.out
      rw [hkx] at ho ⊢
      have HO2 := Lib.hid ho
      clear ho hkx HO hk
      obtain ⟨m, hm⟩ : ∃ m, m = (lsN P X).length := ⟨_, rfl⟩
      rw [← hm]
      have HM := Lib.hid hm; clear hm
      go_wp2
      go_ret
      exact ⟨a', c', by rw [← HM.out]; rfl, HO2.out, HF.out⟩
end Go.Proofs.YtcbpppdmkhpkkaaGreat
/- The document's Put, Delete, Drop, Get, List at a tree inside a greater block, as the program's answers say. -/
namespace Go.Proofs.YtcbpppdmkhpkkaaGreat
open Go.RowKit
set_option maxRecDepth 100000
def SpEnd (z : World) (B q fo : Nat) (F : List Nat) (M' : List Nd) (v : Value) (e : Ending) (w' : World) : Prop := e = .returned v ∧ ∃ X' a' c', St w' B q fo F a' c' X' ∧ Alike M' X' ∧ Frm [q] z w' ∧ OthT q fo z w'
theorem OthT.refl (q fo : Nat) (z : World) : OthT q fo z z := fun _ _ => rfl
theorem sput_like {z : World} {B q fo : Nat} {F : List Nat} {ra : Option Addr} {rc : Nat} {X : List Nx} {M : List Nd} (s : ByteArray) (va : Option Addr) (vn vc : Nat) (v : List Nat) (want own : Nat) (h : St z B q fo F ra rc X) (ha : Alike M X) (hG : Good M) (hF : ∀ x ∈ F, x < z.heap.size)
    (hb : Bytes z va v) (hv : vn = v.length) (hvn : va = none → vc = 0) (hs : s.size ≤ 9223372036854775807) (hw : want < 18446744073709551616) (ho : own < 18446744073709551616) :
    Calls Tryz.prog 34 #[.pointer (some ⟨q, fo, none⟩), .string s, .slice va vn vc, .int .u64 (want : Nat), .int .u64 (own : Nat)] z (SpEnd z B q fo F (putNL M s v want own) (.tuple #[.int .u64 (putNR M s v want : Nat), .int .i64 (putNC M s v want : Nat)])) := by
  rw [← ha.retP, ← ha.codeP]
  by_cases hc : putC X s v want = 0
  · obtain ⟨h1, h2, h3, ⟨rfl, h5, h6⟩ | ⟨h4, h5, h6⟩⟩ := putC_ok hc
    · refine (sput_new s va vn vc v own h hF hb hv hvn h1 h2 h3 ho h5 h6).mono ?_
      rintro e w' ⟨he, X', hX, a', c', hr, hf, _, hot⟩
      refine ⟨?_, X', a', c', hr, ha.put hG s v 0 own ?_, hf, hot⟩
      · rw [hc, show putR X s v 0 = 1 by unfold putR; rw [if_neg (by omega)]]; exact he
      · unfold putL; rw [if_neg (by omega), if_neg h5]; exact hX
    · refine (sput_old s va vn vc v want own (atN X s) _ h hF hb hv hvn h1 h2 h3 h4 hw rfl h5 h6 rfl).mono ?_
      rintro e w' ⟨he, X', hX, a', c', hr, hf, _, hot⟩
      refine ⟨?_, X', a', c', hr, ha.put hG s v want own ?_, hf, hot⟩
      · rw [hc, show putR X s v want = (want + 1) % 18446744073709551616 by unfold putR; rw [if_neg (by omega)]]; exact he
      · unfold putL; rw [if_neg (by omega), if_pos h5]; exact hX
  · refine (sput_bad s va vn vc v want own h hv (by have := hb.2.1; omega) hs hc).mono ?_
    rintro e w' ⟨he, rfl⟩
    refine ⟨?_, X, ra, rc, h, ha.put hG s v want own ?_, Frm.refl _ _, OthT.refl _ _ _⟩
    · rw [show putR X s v want = 0 by unfold putR; rw [if_pos hc]]; exact he
    · unfold putL; rw [if_pos hc]
theorem sdel_like {z : World} {B q fo : Nat} {F : List Nat} {ra : Option Addr} {rc : Nat} {X : List Nx} {M : List Nd} (s : ByteArray) (want : Nat) (h : St z B q fo F ra rc X) (ha : Alike M X) (hG : Good M) (hF : ∀ x ∈ F, x < z.heap.size) :
    Calls Tryz.prog 35 #[.pointer (some ⟨q, fo, none⟩), .string s, .int .u64 (want : Nat)] z (SpEnd z B q fo F (delL M s want) (.int .i64 (delN M s want : Nat))) := by
  have hal := fun (X' : List Nx) h => ha.del (X' := X') hG s want h
  rw [← ha.codeD]
  by_cases hc : delC X s want = 0
  · rw [hc]
    rw [if_pos hc] at hal
    have hc2 := hc
    unfold delC at hc2
    split at hc2
    · omega
    · split at hc2
      · omega
      · rename_i h1 h2
        refine (sdel_ok s want (atN X s) h hF rfl (by omega) (by omega)).mono ?_
        rintro e w' ⟨he, a', c', hr, hf, _, hot⟩
        exact ⟨he, _, a', c', hr, hal _ rfl, hf, hot⟩
  · rw [if_neg hc] at hal
    refine (sdel_bad s want h hc).mono ?_
    rintro e w' ⟨he, rfl⟩
    exact ⟨he, X, ra, rc, h, hal _ rfl, Frm.refl _ _, OthT.refl _ _ _⟩
theorem sdrop_like {z : World} {B q fo : Nat} {F : List Nat} {ra : Option Addr} {rc : Nat} {X : List Nx} {M : List Nd} (o : Nat) (h : St z B q fo F ra rc X) (ha : Alike M X) (hF : ∀ x ∈ F, x < z.heap.size) :
    Calls Tryz.prog 39 #[.pointer (some ⟨q, fo, none⟩), .int .u64 (o : Nat)] z (SpEnd z B q fo F (keepD o M) (.tuple #[])) := by
  refine (sdrop_any o h hF).mono ?_
  rintro e w' ⟨he, a', c', hr, hf, _, hot⟩
  exact ⟨he, _, a', c', hr, ha.drop o, hf, hot⟩
/-- What the document's Get answers: the same node. -/
theorem sget_like {M : List Nd} {X : List Nx} (h : Alike M X) (s : ByteArray) : (X.getD (atN X s) default).t = getN M s ∧ decide (atN X s < X.length) = isN M s := by
  refine ⟨?_, (h.there s).symm⟩
  unfold getN
  rw [h.there s]
  by_cases hin : atN X s < X.length
  · rw [if_pos (by simp [hin]), h.node hin]
  · rw [if_neg (by simp [hin])]
    have : atN X s = X.length := by have := atN_le X s; omega
    simp [List.getD, this]
    rfl
end Go.Proofs.YtcbpppdmkhpkkaaGreat
/- The document's book of sessions inside a greater block (a State's field), at cell o of block p; contracts of at, Live. (For stage 8.) -/
namespace Go.Proofs.YtcbpppdmkhpkkaaGreat
open Go.RowKit

/-- The document's book at cell o of block p: the last Id, the sessions X; its row lies outside p and the blocks F. -/
structure Sb (w : World) (B p o : Nat) (F : List Nat) (a : Option Addr) (cap last : Nat) (X : List Sn) : Prop where
  c0 : w.cell? ⟨p, o, none⟩ = some (.int .u64 (last : Nat))
  c1 : w.cell? ⟨p, o + 1, none⟩ = some (.slice a X.length cap)
  free : ∀ j, w.frozen? ⟨p, j, none⟩ = false
  row : SOwn w B 142 (p :: F) a cap X
  hp : B ≤ p
  out : p ∉ F
  few : X.length ≤ 16
  lt : last < 18446744073709551616
theorem Sb.plt {w : World} {B p o : Nat} {F : List Nat} {a : Option Addr} {cap last : Nat} {X : List Sn} (h : Sb w B p o F a cap last X) : p < w.heap.size := block_lt_of_cell h.c0

set_option maxRecDepth 100000 in
set_option maxHeartbeats 1000000 in
theorem sbat_any {w : World} {B p o : Nat} {F : List Nat} {a : Option Addr} {cap last : Nat} {X : List Sn} (id : Nat) (h : Sb w B p o F a cap last X) :
    Calls Tryz.prog 70 #[.pointer (some ⟨p, o, none⟩), .int .u64 (id : Nat)] w fun e w' => e = .returned (.int .i64 (atSI X id)) ∧ w = w' := by
  have c1 := h.c1
  have hn := h.few
  obtain ⟨n, hnn⟩ : ∃ n, n = X.length := ⟨_, rfl⟩
  rw [← hnn] at c1 hn
  have HR := Lib.hid h.row.sl
  have HN := Lib.hid hnn
  have hle := atS_le X id
  rw [← hnn] at hle
  have hatI : atSI X id = if atS X id < n then ((atS X id : Nat) : Int) else -1 := by unfold atSI; rw [hnn]
  have HAK := Lib.hid (fun h => atS_at (X := X) (id := id) h)
  have HAB := Lib.hid (fun j h => atS_before (X := X) (id := id) (j := j) h)
  obtain ⟨q, hq⟩ : ∃ q, q = atS X id := ⟨_, rfl⟩
  rw [← hq] at hle hatI HAK HAB
  have HAI := Lib.hid hatI
  clear h hnn hatI hq
  go_enter Tryz.func70, Tryz.ntmps70
  go_wp2
  go_loop [5] (fun u => ∃ k : Nat, k ≤ n ∧ k ≤ q ∧ u = .int .i64 (k : Nat)) (fun u => n - (intOf u).toNat)
  case atStart => exact ⟨0, Nat.zero_le _, Nat.zero_le _, rfl⟩
  case round =>
    obtain ⟨k, hk, hkq, rfl⟩ := hrel
    by_cases hlt : k < n
    · obtain ⟨b, off, rfl, p0, _⟩ := HR.out.at (i := k) (by have := HN.out; omega)
      by_cases hkq2 : k = q
      · subst hkq2
        have hkey := HAK.out (by have := HN.out; omega)
        rw [hkey] at p0
        go_wp2
        go_ret
        exact ⟨ret_same (by rw [HAI.out, if_pos hlt]), rfl⟩
      · obtain ⟨K, hK⟩ : ∃ K, K = (X.getD k default).id := ⟨_, rfl⟩
        have hne : ¬ K = id := by rw [hK]; exact HAB.out k (by omega)
        rw [← hK] at p0
        have hnt : ((K : Int) == (id : Int)) = false := by rw [beq_eq_false_iff_ne]; omega
        clear hK hne
        go_wp2
        go_round
        case rel => exact ⟨k + 1, by omega, by omega, by go_num⟩
        case measure => simp [intOf]; omega
    · go_wp2
      go_ret
      exact ⟨ret_same (by rw [HAI.out, if_neg (by omega)]), rfl⟩
set_option maxRecDepth 100000 in
set_option maxHeartbeats 1000000 in
theorem sblive_any {w : World} {B p o : Nat} {F : List Nat} {a : Option Addr} {cap last : Nat} {X : List Sn} (id now : Nat) (h : Sb w B p o F a cap last X) :
    Calls Tryz.prog 33 #[.pointer (some ⟨p, o, none⟩), .int .u64 (id : Nat), .int .u64 (now : Nat)] w fun e w' => e = .returned (.bool (liveS X id now)) ∧ w = w' := by
  have hA := sbat_any id h
  have c1 := h.c1
  have hn := h.few
  unfold liveS
  by_cases hin : atS X id < X.length
  · obtain ⟨b, off, rfl, p0, p1, p2, _⟩ := h.row.sl.at hin
    have hat : atSI X id = ((atS X id : Nat) : Int) := by unfold atSI; rw [if_pos hin]
    rw [hat] at hA
    rw [decide_eq_true hin, Bool.true_and]
    generalize (X.getD (atS X id) default).ends = ends at p1
    generalize atS X id = q at hA p1 hin
    obtain ⟨n, hnn⟩ : ∃ n, n = X.length := ⟨_, rfl⟩
    rw [← hnn] at c1 hn hin
    have HA := Lib.hid hA
    clear h hA hat hnn p0 p2
    by_cases hnow : now < ends
    · rw [decide_eq_true hnow]
      go_enter Tryz.func33, Tryz.ntmps33
      go_wp2_with ((with_reducible refine HA.out.mono ?_); rintro e w' ⟨rfl, rfl⟩)
      go_ret
      exact ⟨rfl, rfl⟩
    · rw [decide_eq_false hnow]
      go_enter Tryz.func33, Tryz.ntmps33
      go_wp2_with ((with_reducible refine HA.out.mono ?_); rintro e w' ⟨rfl, rfl⟩)
      go_ret
      exact ⟨rfl, rfl⟩
  · have hat : atSI X id = -1 := by unfold atSI; rw [if_neg hin]
    rw [hat] at hA
    rw [decide_eq_false hin, Bool.false_and]
    have HA := Lib.hid hA
    clear h hA hat c1
    go_enter Tryz.func33, Tryz.ntmps33
    go_wp2_with ((with_reducible refine HA.out.mono ?_); rintro e w' ⟨rfl, rfl⟩)
    go_ret
    exact ⟨rfl, rfl⟩
end Go.Proofs.YtcbpppdmkhpkkaaGreat
/- Contract of the document's Close, at a book inside a greater block. (For stage 8.) -/
namespace Go.Proofs.YtcbpppdmkhpkkaaGreat
open Go.RowKit

/-- Of block p just the cells o, o + 1 were turned. -/
def Oth (p o : Nat) (w w' : World) : Prop := ∀ j, j ≠ o → j ≠ o + 1 → w'.cell? ⟨p, j, none⟩ = w.cell? ⟨p, j, none⟩
/-- What a change of the book leaves: of block p just the book's two cells were turned. -/
def SbTo (w w' : World) (B p o : Nat) (F : List Nat) (last' : Nat) (X' : List Sn) : Prop := ∃ a' c', Sb w' B p o F a' c' last' X' ∧ Frm [p] w w' ∧ Oth p o w w' ∧ ∀ g ∈ blk a', w.heap.size ≤ g
/-- A list of sessions is stored in the book. -/
theorem Sb.store {w w1 : World} {B p o : Nat} {F : List Nat} {a a' : Option Addr} {cap c' last : Nat} {X Y : List Sn} (h : Sb w B p o F a cap last X) (hf : Frm [] w w1) (hr : SOwn w1 w.heap.size 142 (p :: F) a' c' Y) (hl : Y.length ≤ 16) :
    SbTo w (w1.setCell ⟨p, o + 1, none⟩ (.slice a' Y.length c')) B p o F last Y := by
  have hp1 : w1.cell? ⟨p, o + 1, none⟩ = some (.slice a X.length cap) := (hf.cell (p := ⟨p, o + 1, none⟩) h.plt (by simp)).trans h.c1
  have hs : Frm [p] w1 (w1.setCell ⟨p, o + 1, none⟩ (.slice a' Y.length c')) := (Frm.refl _ _).setCell (.inl (by simp)) _
  have hr2 := hr.keep (F' := p :: F) hs (fun x hx => .inl (by simp at hx; simp [hx])) (fun _ hx => .inl hx)
  have hoth : ∀ j, j ≠ o + 1 → (w1.setCell ⟨p, o + 1, none⟩ (.slice a' Y.length c')).cell? ⟨p, j, none⟩ = w.cell? ⟨p, j, none⟩ := fun j hj => by
    rw [World.cell?_setCell_other _ _ _ _ (by first | (simp; done) | (simp; exact fun e => hj e.symm))]
    exact hf.cell (p := ⟨p, j, none⟩) h.plt (by simp)
  refine ⟨a', c', ⟨(hoth o (by omega)).trans h.c0, World.cell?_setCell_same _ _ _ hp1, fun j => ?_, ⟨?_, hr2.fits, hr2.away⟩, h.hp, h.out, hl, h.lt⟩, (hf.weak (by simp)).trans hs (fun x hx => hx) (fun x hx => .inl hx), fun j _ hj => hoth j hj, fun g hg => (hr.blk_lt g hg).1⟩
  · rw [World.frozen?_setCell]
    exact (hf.frozen (p := ⟨p, j, none⟩) h.plt (by simp)).trans (h.free j)
  · refine ⟨hr2.own.1, ?_⟩
    rcases hr2.own.2 with h2 | ⟨g, cp, cur, hv, hg, r⟩
    · exact .inl h2
    · exact .inr ⟨g, cp, cur, hv, by have := h.hp; have := h.plt; omega, r⟩
theorem Sb.keep {w w' : World} {B p o : Nat} {F S : List Nat} {a : Option Addr} {cap last : Nat} {X : List Sn} (h : Sb w B p o F a cap last X) (hf : Frm S w w') (hp : p ∉ S) (hS : ∀ x ∈ S, x ∈ p :: F ∨ w.heap.size ≤ x) : Sb w' B p o F a cap last X :=
  ⟨(hf.cell (p := ⟨p, o, none⟩) h.plt hp).trans h.c0, (hf.cell (p := ⟨p, o + 1, none⟩) h.plt hp).trans h.c1, fun j => (hf.frozen (p := ⟨p, j, none⟩) h.plt hp).trans (h.free j), h.row.keep hf hS (fun _ hx => .inl hx), h.hp, h.out, h.few, h.lt⟩
/-- What a call that answers a value leaves. -/
def SbEnd (w : World) (B p o : Nat) (F : List Nat) (last' : Nat) (X' : List Sn) (v : Value) (e : Ending) (w' : World) : Prop := e = .returned v ∧ ∃ a' c', Sb w' B p o F a' c' last' X' ∧ Frm [p] w w' ∧ Oth p o w w'

set_option maxRecDepth 100000 in
set_option maxHeartbeats 4000000 in
theorem sbclose_ok {w : World} {B p o : Nat} {F : List Nat} {a : Option Addr} {cap last : Nat} {X : List Sn} (id q : Nat) (h : Sb w B p o F a cap last X) (hF : ∀ x ∈ F, x < w.heap.size) (hq : q = atS X id) (hin : q < X.length) :
    Calls Tryz.prog 38 #[.pointer (some ⟨p, o, none⟩), .int .u64 (id : Nat)] w fun e w' => e = .returned (.int .i64 0) ∧ SbTo w w' B p o F last (X.take q ++ X.drop (q + 1)) := by
  obtain ⟨i0, hi, hz0, hz1, hz2⟩ := info_parts Tryz.info142
  have HI := Lib.hid hi; clear hi
  have HZ0 := Lib.hid hz0; clear hz0
  have HZ1 := Lib.hid hz1; clear hz1
  have HZ2 := Lib.hid hz2; clear hz2
  have hat : atSI X id = (q : Int) := by unfold atSI; rw [← hq, if_pos hin]
  have hR := sbat_any id h
  rw [hat] at hR
  have HR := Lib.hid hR; clear hR hat
  obtain ⟨n, hnn⟩ : ∃ n, n = X.length := ⟨_, rfl⟩
  have hn : n ≤ 16 := by have := h.few; omega
  have hqn : q < n := by omega
  obtain ⟨b, off, rfl, _, _, _, _⟩ := h.row.sl.at hin
  have c0 := h.c1
  rw [← hnn] at c0
  have hcap : n ≤ cap := by rw [hnn]; exact h.row.caps.1
  have HH := Lib.hid h
  have HN := Lib.hid hnn
  have HPF : Hid (∀ x ∈ p :: F, x < w.heap.size) := Lib.hid fun x hx => by
    rcases List.mem_cons.1 hx with rfl | h1
    · exact HH.out.plt
    · exact hF x h1
  have hcut1 := fun w => run_head3 Tryz.underlying31 sizeS w (some ⟨b, off, none⟩) n cap q (by omega)
  have hcut2 := fun w => run_cut3 (P := Tryz.prog) Tryz.underlying31 sizeS w (some ⟨b, off, none⟩) n cap (q + 1) ((q : Int) + 1) (by omega) (by omega)
  obtain ⟨a2, ha2⟩ : ∃ a2, a2 = cut3 (some ⟨b, off, none⟩) cap (q + 1) := ⟨_, rfl⟩
  obtain ⟨n2, hn2⟩ : ∃ n2, n2 = n - (q + 1) := ⟨_, rfl⟩
  obtain ⟨c2, hc2⟩ : ∃ c2, c2 = cap - (q + 1) := ⟨_, rfl⟩
  have hD2 := h.row.sl.drop (by rw [← hnn]; exact hcap) (q + 1)
  rw [← ha2] at hcut2 hD2
  rw [← hn2, ← hc2] at hcut2
  have hD1 := h.row.sl.take q
  have hs1 : IntKind.i64.wrap ((q : Int) + 1) = (q : Int) + 1 := IntWalk.i64_in _ (by omega)
  have h2none : a2 = none → c2 = 0 := fun h0 => by
    rw [ha2] at h0
    unfold cut3 at h0
    split at h0 <;> simp at h0
  have HD1 := Lib.hid hD1
  have HD2 := Lib.hid hD2
  have H2N := Lib.hid h2none
  have hl1 : (snc (X.take q)).length = q * 3 := by rw [snc_length, List.length_take, ← hnn, Nat.min_eq_left (by omega)]
  have hl2 : (snc (X.drop (q + 1))).length = n2 * 3 := by rw [snc_length, List.length_drop, ← hnn, hn2]
  have hm1 : q = (X.take q).length := by rw [List.length_take, ← hnn, Nat.min_eq_left (by omega)]
  have hm2 : n2 = (X.drop (q + 1)).length := by rw [List.length_drop, ← hnn, hn2]
  have HL1 := Lib.hid hl1
  have HL2 := Lib.hid hl2
  have HM1 := Lib.hid hm1
  have HM2 := Lib.hid hm2
  have hfit1 : 0 + q ≤ 1000000000 := by omega
  have hfit2 : q + n2 ≤ 1000000000 := by omega
  have hfit3 : q + n2 ≤ 16 := by omega
  obtain ⟨wA, hA⟩ : ∃ wA, wA = w.alloc (.cells #[] 142) := ⟨_, rfl⟩
  have hfA : Frm [] w wA := by rw [hA]; exact (Frm.refl _ _).alloc _
  have cA := (hfA.cell (p := ⟨p, o + 1, none⟩) HH.out.plt (by simp)).trans HH.out.c1
  rw [← HN.out] at cA
  rw [hA] at cA
  clear hnn hn2 hc2 ha2 hD1 hD2 h2none hl1 hl2 hm1 hm2 hF hq hin h hfA hA
  go_enter Tryz.func38, Tryz.ntmps38
  go_wp2_with fail
  refine HR.out.mono ?_
  rintro e w' ⟨rfl, rfl⟩
  go_wp2
  have cp : ∀ z, Frm [] w z → z.cell? ⟨p, o + 1, none⟩ = some (.slice (some ⟨b, off, none⟩) n cap) := fun z hz => (hz.cell (block_lt_of_cell c0) (by simp)).trans c0
  have V1 := Lib.hid (fun (z : World) (hz : Frm [] w z) => (HD1.out.keep (F' := p :: F) hz (by simp) (fun x h => .inl h)).vals)
  have V2 := Lib.hid (fun (z : World) (hz : Frm [] w z) => (HD2.out.keep (F' := p :: F) hz (by simp) (fun x h => .inl h)).vals)
  have LIT := Lib.hid (fun (z : World) (hz : Frm [] w z) => (show (z.alloc (.cells #[] 142)).ownsRow w.heap.size 142 3 (.slice (some ⟨z.heap.size, 0, none⟩) 0 0) 0 (snc []) from World.ownsRow_lit z #[] 0 hz.size (by unfold maxLen; omega) rfl))
  have FRZ := Lib.hid (fun (z : World) (hz : Frm [] w z) => (hz.frozen (p := ⟨p, o + 1, none⟩) HH.out.plt (by simp)).trans (HH.out.free (o + 1)))
  have OLN := Lib.hid (fun (z : World) (hz : Frm [] w z) => (show SOwn (z.alloc (.cells #[] 142)) w.heap.size 142 (p :: F) (some ⟨z.heap.size, 0, none⟩) 0 [] from ⟨World.ownsRow_lit z #[] 0 hz.size (by unfold maxLen; omega) rfl, by simp, fun g hg hm => by
    simp at hg; subst hg; have h1 := HPF.out _ hm; have h2 := hz.size; omega⟩))
  have f00 : Frm [] w w.drew := (Frm.refl [] w).drew
  go_region_law (first
    | (refine step_appS (by rfl) (.tmp 12) (.tmp 18) 31 rfl w.heap.size 142 i0 (.agg #[.int .u64 0, .int .u64 0, .int .u64 0]) 3 24 Tryz.underlying31 HI.out HZ0.out rfl (by decide) HZ1.out HZ2.out (by decide) _ 0 _ rfl (LIT.out w.drew f00) _ q cap _ rfl (V1.out _ (f00.alloc _)) HL1.out (snc_one _) (fun h => by cases h) hfit1 (f00.alloc _).size q (by omega) ?_; intro a3 c3 w3 happ3; have f3 : Frm [] w w3 := frm_lit3 f00 happ3; have O3 : Hid (w3.ownsRow w.heap.size 142 3 (.slice a3 q c3) q (snc (X.take q))) := (by have h := happ3.own; rw [Nat.zero_add] at h; exact Lib.hid h); have A3 := Lib.hid happ3; clear happ3; have cp3 := cp _ f3)
    | (refine step_appS (by rfl) (.tmp 19) (.tmp 26) 31 rfl w.heap.size 142 i0 (.agg #[.int .u64 0, .int .u64 0, .int .u64 0]) 3 24 Tryz.underlying31 HI.out HZ0.out rfl (by decide) HZ1.out HZ2.out (by decide) _ q _ rfl O3.out _ n2 c2 _ rfl (V2.out _ f3) HL2.out (snc_one _) H2N.out hfit2 f3.size (q + n2) rfl ?_; intro a4 c4 w4 happ4; have f4 : Frm [] w w4 := frm_app3 f3 happ4 (fun g hg => (World.ownsRow.lt O3.out g hg).1); have A4 := Lib.hid happ4; clear happ4; have cp4 := cp _ f4; have fp4 := FRZ.out _ f4))
  all_goals
    obtain ⟨g1, g2, g3, g4⟩ := (OLN.out w.drew f00).app (X := []) rfl HD1.out.fits HM1.out (fun x hx => Nat.lt_of_lt_of_le (HPF.out x hx) (f00.alloc _).size) A3.out
    rw [List.nil_append] at g1
    obtain ⟨k1, k2, k3, k4⟩ := g1.app HM1.out HD2.out.fits HM2.out (fun x hx => Nat.lt_of_lt_of_le (HPF.out x hx) f3.size) A4.out
    have hst := Sb.store HH.out f4 k1 (by rw [← k4]; omega)
    rw [← k4] at hst
    have HST := Lib.hid hst
    clear g1 g2 g3 g4 k1 k2 k3 k4 hst A3 A4 O3 cp cp3 cp4 fp4 f3 f4 f00
    go_wp2
    go_ret
    exact ⟨rfl, HST.out⟩

set_option maxHeartbeats 1000000 in
theorem sbclose_any {w : World} {B p o : Nat} {F : List Nat} {a : Option Addr} {cap last : Nat} {X : List Sn} (id : Nat) (h : Sb w B p o F a cap last X) (hF : ∀ x ∈ F, x < w.heap.size) :
    Calls Tryz.prog 38 #[.pointer (some ⟨p, o, none⟩), .int .u64 (id : Nat)] w (SbEnd w B p o F last (closeL X id) (.int .i64 (closeC X id : Nat))) := by
  unfold closeC closeL
  by_cases hin : atS X id < X.length
  · rw [if_pos hin, if_pos hin]
    refine (sbclose_ok id (atS X id) h hF rfl hin).mono ?_
    rintro e w' ⟨he, a', c', hr, hf, hj, _⟩
    exact ⟨he, a', c', hr, hf, hj⟩
  · rw [if_neg hin, if_neg hin]
    have hat : atSI X id = -1 := by unfold atSI; rw [if_neg hin]
    have hR := sbat_any id h
    rw [hat] at hR
    have HR := Lib.hid hR; clear hR hat
    have HH := Lib.hid h; clear h hF
    go_enter Tryz.func38, Tryz.ntmps38
    go_wp2_with ((with_reducible refine HR.out.mono ?_); rintro e w' ⟨rfl, rfl⟩)
    go_ret
    exact ⟨rfl, a, cap, HH.out, Frm.refl _ _, fun _ _ _ => rfl⟩
end Go.Proofs.YtcbpppdmkhpkkaaGreat
/- Contract of the document's Expire, at a book inside a greater block. (For stage 8.) -/
namespace Go.Proofs.YtcbpppdmkhpkkaaGreat
open Go.RowKit

/-- The loop of the document's Expire. -/
def SxRel (w : World) (p : Nat) (F : List Nat) (now : Nat) (X : List Sn) (s5 s6 s7 : Value) (wr : World) : Prop :=
  ∃ (k : Nat) (ga la : Option Addr) (gc lc gn ln : Nat), k ≤ X.length ∧ s7 = .int .i64 (k : Nat) ∧ s5 = .slice ga gn gc ∧ s6 = .slice la ln lc ∧ Hid (gn = (goneS now (X.take k)).length) ∧ Hid (ln = (leftS now (X.take k)).length) ∧
    Hid (wr.ownsRow w.heap.size 27 1 (.slice ga gn gc) gn (uvs (goneS now (X.take k)))) ∧ Hid (SOwn wr w.heap.size 142 (p :: F) la lc (leftS now (X.take k))) ∧ Hid (Frm [] w wr)
/-- What Expire answers and leaves. -/
def SxEnd (w : World) (B p o : Nat) (F : List Nat) (last' : Nat) (X' : List Sn) (G : List Nat) (e : Ending) (w' : World) : Prop :=
  ∃ ga gc, e = .returned (.slice ga G.length gc) ∧ (∀ q, ga = some q → w.heap.size ≤ q.block) ∧ ValsAt w' ga (uvs G) ∧ (∃ a' c', Sb w' B p o F a' c' last' X' ∧ Frm [p] w w' ∧ Oth p o w w')

set_option maxRecDepth 100000 in
set_option maxHeartbeats 4000000 in
theorem sbexpire_any {w : World} {B p o : Nat} {F : List Nat} {a : Option Addr} {cap last : Nat} {X : List Sn} (now : Nat) (h : Sb w B p o F a cap last X) (hF : ∀ x ∈ F, x < w.heap.size) :
    Calls Tryz.prog 40 #[.pointer (some ⟨p, o, none⟩), .int .u64 (now : Nat)] w (SxEnd w B p o F last (leftS now X) (goneS now X)) := by
  obtain ⟨i0, hi, hz0, hz1, hz2⟩ := info_parts Tryz.info142
  have HI := Lib.hid hi; clear hi
  have HZ0 := Lib.hid hz0; clear hz0
  have HZ1 := Lib.hid hz1; clear hz1
  have HZ2 := Lib.hid hz2; clear hz2
  obtain ⟨i1, hi, hz0, hz1, hz2⟩ := info_parts Tryz.info27
  have UI := Lib.hid hi; clear hi
  have UZ0 := Lib.hid hz0; clear hz0
  have UZ1 := Lib.hid hz1; clear hz1
  have UZ2 := Lib.hid hz2; clear hz2
  have HH := Lib.hid h
  have hn16 := h.few
  obtain ⟨n, hnn⟩ : ∃ n, n = X.length := ⟨_, rfl⟩
  have HN := Lib.hid hnn
  rw [← hnn] at hn16
  have hpF : ∀ x ∈ p :: F, x < w.heap.size := fun x hx => by
    rcases List.mem_cons.1 hx with rfl | h1
    · exact HH.out.plt
    · exact hF x h1
  have HPF := Lib.hid hpF
  have C1 := Lib.hid (fun (z : World) (hz : Frm [] w z) => (show z.cell? ⟨p, o + 1, none⟩ = some (.slice a n cap) ∧ z.frozen? ⟨p, o + 1, none⟩ = false from ⟨by rw [hnn]; exact (hz.cell (p := ⟨p, o + 1, none⟩) h.plt (by simp)).trans h.c1, (hz.frozen (p := ⟨p, o + 1, none⟩) h.plt (by simp)).trans (h.free (o + 1))⟩))
  have h0 : SxRel w p F now X (.slice none 0 0) (.slice none 0 0) (.int .i64 0) w :=
    ⟨0, none, none, 0, 0, 0, 0, Nat.zero_le _, rfl, rfl, rfl, Lib.hid rfl, Lib.hid rfl, Lib.hid (World.ownsRow_nil _ _ _ _), Lib.hid (SOwn.nil _ _ _ _), Lib.hid (Frm.refl _ _)⟩
  have HR0 := Lib.hid h0
  clear h h0 hnn hpF hF
  go_enter Tryz.func40, Tryz.ntmps40
  go_wp2
  go_loopw [5, 6, 7] (fun s5 s6 s7 wr => SxRel w p F now X s5 s6 s7 wr) (fun _ _ s7 _ => n - (intOf s7).toNat)
  case atStart => exact HR0.out
  case round =>
    obtain ⟨k, ga, la, gc, lc, gn, ln, hk, rfl, rfl, rfl, HGN, HLN, HGO, HLO, HF⟩ := hrel
    obtain ⟨c1, f1⟩ := C1.out _ HF.out
    rw [← HN.out] at hk
    by_cases hlt : k < n
    · have hkX : k < X.length := by rw [← HN.out]; exact hlt
      obtain ⟨b, off, rfl, p0, p1, p2, hxf⟩ := (HH.out.row.sl.keep (F' := []) HF.out (by simp) (by simp)).at (i := k) hkX
      obtain ⟨x, hx⟩ : ∃ x, x = X.getD k default := ⟨_, rfl⟩
      rw [← hx] at p0 p1 p2 hxf
      have hgk : gn ≤ k := by rw [HGN.out]; exact goneS_len now X k
      have hlk : ln ≤ k := by rw [HLN.out]; exact leftS_len now X k
      by_cases hov : x.ends ≤ now
      · obtain ⟨e1, e2⟩ := goneS_y hkX (by rw [← hx]; exact hov)
        rw [← hx] at e1
        obtain ⟨xi, xe, xl⟩ := x
        simp only at p0 p1 p2 hov e1
        have E1 := Lib.hid e1
        have E2 := Lib.hid e2
        clear e1 e2 hx hkX
        have cA := (C1.out _ (HF.out.alloc (.cells #[.int .u64 (xi : Nat)] 27))).1
        go_wp2_with (at_builtin; refine wpList_appV rfl (.tmp 27) (.tmp 36) 50 rfl w.heap.size 27 i1 (.int .u64 0) 8 Tryz.underlying50 UI.out UZ0.out rfl UZ1.out UZ2.out (by decide) (.slice ga gn gc) gn _ rfl (World.ownsRow.alloc HGO.out _) (some ⟨wr.heap.size, 0, none⟩) 1 1 (uvs [xi]) rfl ?b1 rfl (uvs_one _) (fun h => by cases h) (by omega) (by have := HF.out.size; simp; omega) ?_)
        case b1 => exact .inr ⟨_, _, rfl, fun i u hu => by rw [(Whole.made wr _ _).cell, Nat.zero_add]; rw [← hu]; simp [uvs]⟩
        intro ga' gc' w5 happ
        have hf5 : Frm (blk ga) wr w5 := (((Frm.refl (blk ga) wr).alloc _).grown happ.grown (fun k hk => .inl (ownBlk3.1 hk)))
        have hown5 := happ.own
        rw [← uvs_append, ← E1.out] at hown5
        have hlo5 := HLO.out.keepN hf5 (fun g hg hm => own_apart HGO.out HLO.out.own (by decide) g (ownBlk3.2 hm) (ownBlk3.2 hg))
        rw [← E2.out] at hlo5
        have hfw5 : Frm [] w w5 := HF.out.trans hf5 (U := []) (by simp) (fun x hx => .inr (World.ownsRow.lt HGO.out x (ownBlk3.2 hx)).1)
        have G5 := Lib.hid hown5
        have L5 := Lib.hid hlo5
        have F5 := Lib.hid hfw5
        have N5 : Hid (gn + 1 = (goneS now (X.take (k + 1))).length) := Lib.hid (by rw [E1.out, List.length_append, ← HGN.out]; rfl)
        have M5 : Hid (ln = (leftS now (X.take (k + 1))).length) := Lib.hid (by rw [E2.out]; exact HLN.out)
        clear happ hf5 hown5 hlo5 hfw5 cA p0 p1 p2
        go_wp2
        go_roundw
        case rel => exact ⟨k + 1, ga', la, gc', lc, gn + 1, ln, by rw [← HN.out]; omega, by go_num, rfl, rfl, N5, M5, G5, L5, F5⟩
        case measure => simp [intOf]; omega
      · obtain ⟨e1, e2⟩ := goneS_n hkX (by rw [← hx]; exact hov)
        rw [← hx] at e2
        have hfx : ∀ y ∈ [x], y.fits := fun y hy => by simp at hy; subst hy; exact hxf
        have HFX := Lib.hid hfx
        obtain ⟨xi, xe, xl⟩ := x
        simp only at p0 p1 p2 hov
        have E1 := Lib.hid e1
        have E2 := Lib.hid e2
        clear e1 e2 hx hkX hfx
        have cA := (C1.out _ (HF.out.alloc (.cells #[.int .u64 (xi : Nat), .int .u64 (xe : Nat), .int .u64 (xl : Nat)] 142))).1
        have HLA := Lib.hid (HLO.out.keep (S := []) (F' := p :: F) ((Frm.refl [] wr).alloc (.cells #[.int .u64 (xi : Nat), .int .u64 (xe : Nat), .int .u64 (xl : Nat)] 142)) (by simp) (fun _ h => .inl h))
        have HLAO : Hid ((wr.alloc (.cells #[.int .u64 (xi : Nat), .int .u64 (xe : Nat), .int .u64 (xl : Nat)] 142)).ownsRow w.heap.size 142 3 (.slice la ln lc) ln (snc (leftS now (X.take k)))) := Lib.hid (by have h := HLA.out.own; rw [← HLN.out] at h; exact h)
        go_wp2_with (at_builtin; refine wpList_appS (by rfl) (.tmp 38) (.tmp 46) 31 rfl w.heap.size 142 i0 (.agg #[.int .u64 0, .int .u64 0, .int .u64 0]) 3 24 Tryz.underlying31 HI.out HZ0.out rfl (by decide) HZ1.out HZ2.out (by decide) (.slice la ln lc) ln _ rfl HLAO.out (some ⟨wr.heap.size, 0, none⟩) 1 1 (snc [⟨xi, xe, xl⟩]) rfl (snvals_one wr ⟨xi, xe, xl⟩ _) rfl (snc_one _) (fun h => by cases h) (by omega) (by have := HF.out.size; simp; omega) ?_)
        intro la' lc' w5 happ
        have g5 := HLA.out.app HLN.out HFX.out rfl (fun x hx => Nat.lt_of_lt_of_le (HPF.out x hx) (by have := HF.out.size; simp; omega)) happ
        rw [← E2.out] at g5
        have hf5 : Frm (blk la) wr w5 := (((Frm.refl (blk la) wr).alloc _).grown happ.grown (fun k hk => .inl (ownBlk3.1 hk)))
        have hgo5 := hf5.own HGO.out (fun g hg hm => own_apart HGO.out HLO.out.own (by decide) g hg (ownBlk3.2 hm))
        rw [← E1.out] at hgo5
        have hfw5 : Frm [] w w5 := HF.out.trans hf5 (U := []) (by simp) (fun x hx => .inr (HLO.out.blk_lt x hx).1)
        have G5 := Lib.hid hgo5
        have L5 := Lib.hid g5.1
        have F5 := Lib.hid hfw5
        have N5 : Hid (gn = (goneS now (X.take (k + 1))).length) := Lib.hid (by rw [E1.out]; exact HGN.out)
        have M5 : Hid (ln + 1 = (leftS now (X.take (k + 1))).length) := Lib.hid (by rw [E2.out, List.length_append, ← HLN.out]; rfl)
        clear happ g5 hf5 hgo5 hfw5 cA p0 p1 p2
        go_wp2
        go_roundw
        case rel => exact ⟨k + 1, ga, la', gc, lc', gn, ln + 1, by rw [← HN.out]; omega, by go_num, rfl, rfl, N5, M5, G5, L5, F5⟩
        case measure => simp [intOf]; omega
    · obtain rfl : k = n := by omega
      have et : X.take k = X := by rw [HN.out]; exact List.take_length
      rw [et] at HGN HLN HGO HLO
      have hl16 : (leftS now X).length ≤ 16 := by have := leftS_len now X k; rw [et] at this; omega
      have hst := Sb.store HH.out HF.out HLO.out hl16
      rw [← HLN.out] at hst
      have hfs : Frm [p] wr (wr.setCell ⟨p, o + 1, none⟩ (.slice la ln lc)) := (Frm.refl _ _).setCell (.inl (by simp)) _
      have hgv : ValsAt (wr.setCell ⟨p, o + 1, none⟩ (.slice la ln lc)) ga (uvs (goneS now X)) := own_vals (hfs.own HGO.out (fun g hg hm => by
        have h1 := (World.ownsRow.lt HGO.out g hg).1
        have h2 := HH.out.plt
        simp at hm
        omega))
      have HGA : Hid (∀ q, ga = some q → w.heap.size ≤ q.block) := Lib.hid (fun q hq => (World.ownsRow.lt HGO.out q.block (by rw [hq]; rfl)).1)
      have HS := Lib.hid hst
      have HV := Lib.hid hgv
      clear hst hfs hgv
      go_wp2
      go_ret
      obtain ⟨a', c', hrb, hfb, hjb, _⟩ := HS.out
      exact ⟨ga, gc, by rw [← HGN.out]; rfl, HGA.out, HV.out, a', c', hrb, hfb, hjb⟩
end Go.Proofs.YtcbpppdmkhpkkaaGreat
/- Contract of the document's Open, at a book inside a greater block. (For stage 8.) -/
namespace Go.Proofs.YtcbpppdmkhpkkaaGreat
open Go.RowKit

theorem tlit {B : Nat} {G : List Nat} (z : World) (hB : B ≤ z.heap.size) (hG : ∀ x ∈ G, x < z.heap.size) : SOwn (z.alloc (.cells #[] 142)) B 142 G (some ⟨z.heap.size, 0, none⟩) 0 [] :=
  ⟨World.ownsRow_lit z #[] 0 hB (by unfold maxLen; omega) rfl, by simp, fun g hg hm => by simp at hg; subst hg; have h1 := hG _ hm; omega⟩
theorem tlit2 {B : Nat} {G : List Nat} (z : World) (o : Obj) (hB : B ≤ z.heap.size) (hG : ∀ x ∈ G, x < z.heap.size) : SOwn ((z.alloc (.cells #[] 142)).alloc o) B 142 G (some ⟨z.heap.size, 0, none⟩) 0 [] :=
  (tlit z hB hG).keep (S := []) ((Frm.refl _ _).alloc _) (by simp) (fun x hx => .inl hx)
theorem tlit3 {B : Nat} {G : List Nat} (z : World) (o : Obj) (hB : B ≤ z.heap.size) (hG : ∀ x ∈ G, x < z.heap.size) : SOwn ((z.alloc o).alloc (.cells #[] 142)) B 142 G (some ⟨z.heap.size + 1, 0, none⟩) 0 [] := by
  have h := tlit (B := B) (G := G) (z.alloc o) (by simp; omega) (fun x hx => by simp; have := hG x hx; omega)
  simpa using h
theorem Sb.bump {w : World} {B p o : Nat} {F : List Nat} {a : Option Addr} {cap last : Nat} {X : List Sn} (h : Sb w B p o F a cap last X) (hl : last + 1 < 18446744073709551616) : Sb (w.setCell ⟨p, o, none⟩ (.int .u64 ((last + 1 : Nat) : Nat))) B p o F a cap (last + 1) X := by
  have hs : Frm [p] w (w.setCell ⟨p, o, none⟩ (.int .u64 ((last + 1 : Nat) : Nat))) := (Frm.refl _ _).setCell (.inl (by simp)) _
  refine ⟨World.cell?_setCell_same _ _ _ h.c0, ?_, fun j => ?_, h.row.keep hs (fun x hx => .inl (by simp at hx; simp [hx])) (fun _ hx => .inl hx), h.hp, h.out, h.few, hl⟩
  · rw [World.cell?_setCell_other _ _ _ _ (by simp)]
    exact h.c1
  · rw [World.frozen?_setCell]
    exact h.free j

set_option maxRecDepth 100000 in
set_option maxHeartbeats 8000000 in
theorem sbopen_any {w : World} {B p o : Nat} {F : List Nat} {a : Option Addr} {cap last : Nat} {X : List Sn} (now life : Nat) (h : Sb w B p o F a cap last X) (hF : ∀ x ∈ F, x < w.heap.size) (hnow : now < 18446744073709551616) (hlf : life < 18446744073709551616) :
    Calls Tryz.prog 36 #[.pointer (some ⟨p, o, none⟩), .int .u64 (now : Nat), .int .u64 (life : Nat)] w
      (SbEnd w B p o F (openT last X.length life) (openS X last now life) (.tuple #[.int .u64 (openR last X.length life : Nat), .int .i64 (openC last X.length life : Nat)])) := by
  have c0 := h.c0
  have c1 := h.c1
  have f0 := h.free o
  have HSAME : Hid (∃ a' c', Sb w B p o F a' c' last X ∧ Frm [p] w w ∧ Oth p o w w) := Lib.hid ⟨a, cap, h, Frm.refl _ _, fun _ _ _ => rfl⟩
  by_cases hl1 : 1 ≤ life
  · by_cases hl2 : life ≤ 1099511627776
    · have d1 : ((life : Int) == 0) = false := by rw [beq_eq_false_iff_ne]; omega
      have d2 : decide ((1099511627776 : Int) < (life : Int)) = false := decide_eq_false (by omega)
      by_cases h16 : X.length = 16
      · have hc : openC last X.length life = 14 := by unfold openC; rw [if_pos ⟨hl1, hl2⟩, if_pos (.inl h16)]
        have hr : openR last X.length life = 0 := by unfold openR; rw [hc]; rfl
        have ht : openT last X.length life = last := by unfold openT; rw [hc]; rfl
        have hX : openS X last now life = X := by unfold openS; rw [hc]; rfl
        rw [hc, hr, ht, hX]
        rw [h16] at c1
        clear hc hr ht hX h
        go_enter Tryz.func36, Tryz.ntmps36
        go_wp2
        go_ret2
        exact ⟨rfl, HSAME.out⟩
      · by_cases hmax : last = 18446744073709551615
        · have hc : openC last X.length life = 14 := by unfold openC; rw [if_pos ⟨hl1, hl2⟩, if_pos (.inr hmax)]
          have hr : openR last X.length life = 0 := by unfold openR; rw [hc]; rfl
          have ht : openT last X.length life = last := by unfold openT; rw [hc]; rfl
          have hX : openS X last now life = X := by unfold openS; rw [hc]; rfl
          rw [hc, hr, ht, hX]
          generalize X.length = n at c1 h16
          have hn16 : ((n : Int) == 16) = false := by rw [beq_eq_false_iff_ne]; omega
          have hmm : ((last : Int) == 18446744073709551615) = true := by rw [beq_iff_eq]; omega
          clear hc hr ht hX h hmax
          go_enter Tryz.func36, Tryz.ntmps36
          go_wp2
          go_ret2
          exact ⟨rfl, HSAME.out⟩
        · have hc : openC last X.length life = 0 := by unfold openC; rw [if_pos ⟨hl1, hl2⟩, if_neg (fun h => h.elim h16 hmax)]
          have hr : openR last X.length life = last + 1 := by unfold openR; rw [hc]; rfl
          have ht : openT last X.length life = last + 1 := by unfold openT; rw [hc]; rfl
          have hX : openS X last now life = X ++ [⟨last + 1, sumU now life, life⟩] := by unfold openS; rw [hc]; rfl
          rw [hc, hr, ht, hX]
          have hlt := h.lt
          have hx16 : X.length < 16 := by have := h.few; omega
          have hb1 := h.bump (by omega)
          have HFS : Hid (∀ y ∈ [(⟨last + 1, sumU now life, life⟩ : Sn)], y.fits) := Lib.hid (fun y hy => by simp at hy; subst hy; exact fits_push hl2 (by omega))
          have HSU := Lib.hid (fun w => usum_any (w := w) now life hnow hlf)
          obtain ⟨s, hs⟩ : ∃ s, s = sumU now life := ⟨_, rfl⟩
          rw [← hs] at HFS HSU ⊢
          obtain ⟨l1, hl1'⟩ : ∃ l1, l1 = last + 1 := ⟨_, rfl⟩
          have hw0 : ((last : Int) + 1) % 18446744073709551616 = (l1 : Int) := by omega
          have hw : IntKind.u64.wrap ((last : Int) + 1) = (l1 : Int) := by rw [← hw0]; simp [IntKind.wrap, IntKind.bits, IntKind.signed]
          rw [← hl1'] at hb1 HFS ⊢
          obtain ⟨w1, hw1⟩ : ∃ w1, w1 = w.setCell ⟨p, o, none⟩ (.int .u64 (l1 : Nat)) := ⟨_, rfl⟩
          have hsz1 : w1.heap.size = w.heap.size := by rw [hw1]; simp [World.setCell]
          have hfw1 : Frm [p] w w1 := by rw [hw1]; exact (Frm.refl _ _).setCell (.inl (by simp)) _
          rw [← hw1] at hb1
          have HO1 : Hid (∀ j, j ≠ o → w1.cell? ⟨p, j, none⟩ = w.cell? ⟨p, j, none⟩) := Lib.hid (fun j hj => by rw [hw1, World.cell?_setCell_other _ _ _ _ (by first | (simp; done) | (simp; exact fun e => hj e.symm))])
          have hw1' : w.setCell ⟨p, o, none⟩ (.int .u64 (l1 : Nat)) = w1 := hw1.symm
          obtain ⟨i0, hi, hz0, hz1, hz2⟩ := info_parts Tryz.info142
          have HI := Lib.hid hi; clear hi
          have HZ0 := Lib.hid hz0; clear hz0
          have HZ1 := Lib.hid hz1; clear hz1
          have HZ2 := Lib.hid hz2; clear hz2
          have HH := Lib.hid hb1
          have hpF : ∀ x ∈ p :: F, x < w1.heap.size := fun x hx => by
            rcases List.mem_cons.1 hx with rfl | h1
            · exact hb1.plt
            · rw [hsz1]; exact hF x h1
          have HPF := Lib.hid hpF
          obtain ⟨n, hnn⟩ : ∃ n, n = X.length := ⟨_, rfl⟩
          have HN := Lib.hid hnn
          have d0 := hb1.c0
          have d3 := hb1.c1
          rw [← hnn] at d3 c1
          have hn16 : ((n : Int) == 16) = false := by rw [beq_eq_false_iff_ne]; omega
          have hmm : ((last : Int) == 18446744073709551615) = false := by rw [beq_eq_false_iff_ne]; omega
          have VX := Lib.hid (fun (z : World) (hz : Frm [] w1 z) => (hb1.row.sl.keep (F' := p :: F) hz (by simp) (fun x h => .inl h)).vals)
          have HFX := Lib.hid hb1.row.fits
          have HNIL := Lib.hid hb1.row.caps.2.2
          have HLX : Hid ((snc X).length = n * 3) := Lib.hid (by rw [snc_length, hnn])
          have cp : ∀ z, Frm [] w1 z → z.cell? ⟨p, o + 1, none⟩ = some (.slice a n cap) ∧ z.cell? ⟨p, o, none⟩ = some (.int .u64 (l1 : Nat)) := fun z hz => ⟨(hz.cell (block_lt_of_cell d3) (by simp)).trans d3, (hz.cell (block_lt_of_cell d0) (by simp)).trans d0⟩
          have FRZ := Lib.hid (fun (z : World) (hz : Frm [] w1 z) => (hz.frozen (p := ⟨p, o + 1, none⟩) HH.out.plt (by simp)).trans (HH.out.free (o + 1)))
          have LIT := Lib.hid (fun (z : World) (hz : Frm [] w1 z) => tlit (B := w1.heap.size) (G := p :: F) z hz.size (fun x hx => Nat.lt_of_lt_of_le (hpF x hx) hz.size))
          have LIT2 := Lib.hid (fun (z : World) (o : Obj) (hz : Frm [] w1 z) => tlit2 (B := w1.heap.size) (G := p :: F) z o hz.size (fun x hx => Nat.lt_of_lt_of_le (hpF x hx) hz.size))
          have LIT3 := Lib.hid (fun (z : World) (o : Obj) (hz : Frm [] w1 z) => tlit3 (B := w1.heap.size) (G := p :: F) z o hz.size (fun x hx => Nat.lt_of_lt_of_le (hpF x hx) hz.size))
          have hfit1 : 0 + n ≤ 1000000000 := by omega
          have hfit2 : n + 1 ≤ 1000000000 := by omega
          have f00 : Frm [] w1 w1.drew := (Frm.refl [] w1).drew
          have ce1 := fun o => cp (w1.alloc o) ((Frm.refl [] w1).alloc o)
          have ce2 := fun o o' => cp ((w1.alloc o).alloc o') (((Frm.refl [] w1).alloc o).alloc o')
          have HFW1 := Lib.hid hfw1
          clear hsz1
          have HX16 := Lib.hid hx16
          clear hc hr ht hX h hmax hb1 hs hl1' hw1 HSAME hlt hx16 h16 hpF hnn hF hfw1 hl1 hl2 hnow hlf
          go_enter Tryz.func36, Tryz.ntmps36
          go_wp2
          try rw [hw1']
          go_region_law (first
            | (go_simp; go_at_call 71; (with_reducible refine (HSU.out _).mono ?_); rintro e w' ⟨rfl, rfl⟩)
            | (refine step_appS (by rfl) (.tmp 36) (.tmp 40) 31 rfl w1.heap.size 142 i0 (.agg #[.int .u64 0, .int .u64 0, .int .u64 0]) 3 24 Tryz.underlying31 HI.out HZ0.out rfl (by decide) HZ1.out HZ2.out (by decide) _ 0 _ rfl (LIT.out w1.drew f00).own _ n cap _ rfl (VX.out _ (by repeat (first | exact f00 | exact Frm.refl _ _ | apply Frm.drew | apply Frm.alloc))) HLX.out (snc_one _) HNIL.out hfit1 (by refine Frm.size (S := []) (w := w1) ?_; repeat (first | exact f00 | exact Frm.refl _ _ | apply Frm.drew | apply Frm.alloc)) n (Nat.zero_add n) ?_; intro a8 c8 w8 happ8; have g8 := (LIT.out w1.drew f00).app (X := []) rfl HFX.out HN.out (fun x hx => Nat.lt_of_lt_of_le (HPF.out x hx) (by simp)) happ8; have O8 : Hid (SOwn w8 w1.heap.size 142 (p :: F) a8 c8 X) := (by have h := g8.1; rw [List.nil_append] at h; exact Lib.hid h); have T8 : Frm [] w1 w8 := frm_app3 (by repeat (first | exact f00 | exact Frm.refl _ _ | apply Frm.drew | apply Frm.alloc)) happ8 (fun g hg => by cases hg; first | exact Nat.le_refl _ | exact Nat.le_succ _); clear happ8 g8; have cp8 := cp _ T8; have cq8 := fun o => cp _ (T8.alloc o))
            | (refine step_appS (by rfl) (.tmp 36) (.tmp 40) 31 rfl w1.heap.size 142 i0 (.agg #[.int .u64 0, .int .u64 0, .int .u64 0]) 3 24 Tryz.underlying31 HI.out HZ0.out rfl (by decide) HZ1.out HZ2.out (by decide) _ 0 _ rfl (LIT2.out w1.drew _ f00).own _ n cap _ rfl (VX.out _ (by repeat (first | exact f00 | exact Frm.refl _ _ | apply Frm.drew | apply Frm.alloc))) HLX.out (snc_one _) HNIL.out hfit1 (by refine Frm.size (S := []) (w := w1) ?_; repeat (first | exact f00 | exact Frm.refl _ _ | apply Frm.drew | apply Frm.alloc)) n (Nat.zero_add n) ?_; intro a8 c8 w8 happ8; have g8 := (LIT2.out w1.drew _ f00).app (X := []) rfl HFX.out HN.out (fun x hx => Nat.lt_of_lt_of_le (HPF.out x hx) (by simp)) happ8; have O8 : Hid (SOwn w8 w1.heap.size 142 (p :: F) a8 c8 X) := (by have h := g8.1; rw [List.nil_append] at h; exact Lib.hid h); have T8 : Frm [] w1 w8 := frm_app3 (by repeat (first | exact f00 | exact Frm.refl _ _ | apply Frm.drew | apply Frm.alloc)) happ8 (fun g hg => by cases hg; first | exact Nat.le_refl _ | exact Nat.le_succ _); have H8 : Hid (ValsAt w8 (some ⟨_, 0, none⟩) (snc [⟨l1, s, life⟩])) := Lib.hid (ValsAt.keep (S := [w1.drew.heap.size]) (snvals_one _ ⟨l1, s, life⟩ _) ((Frm.refl [w1.drew.heap.size] _).grown happ8.grown (fun k hk => .inl (by cases hk; first | exact List.mem_singleton.2 rfl | simp))) (fun _ q hq => by cases hq; simp)); clear happ8 g8; have cp8 := cp _ T8; have cq8 := fun o => cp _ (T8.alloc o))
            | (refine step_appS (by rfl) (.tmp 36) (.tmp 40) 31 rfl w1.heap.size 142 i0 (.agg #[.int .u64 0, .int .u64 0, .int .u64 0]) 3 24 Tryz.underlying31 HI.out HZ0.out rfl (by decide) HZ1.out HZ2.out (by decide) _ 0 _ rfl (LIT3.out w1.drew _ f00).own _ n cap _ rfl (VX.out _ (by repeat (first | exact f00 | exact Frm.refl _ _ | apply Frm.drew | apply Frm.alloc))) HLX.out (snc_one _) HNIL.out hfit1 (by refine Frm.size (S := []) (w := w1) ?_; repeat (first | exact f00 | exact Frm.refl _ _ | apply Frm.drew | apply Frm.alloc)) n (Nat.zero_add n) ?_; intro a8 c8 w8 happ8; have g8 := (LIT3.out w1.drew _ f00).app (X := []) rfl HFX.out HN.out (fun x hx => Nat.lt_of_lt_of_le (HPF.out x hx) (by simp)) happ8; have O8 : Hid (SOwn w8 w1.heap.size 142 (p :: F) a8 c8 X) := (by have h := g8.1; rw [List.nil_append] at h; exact Lib.hid h); have T8 : Frm [] w1 w8 := frm_app3 (by repeat (first | exact f00 | exact Frm.refl _ _ | apply Frm.drew | apply Frm.alloc)) happ8 (fun g hg => by cases hg; first | exact Nat.le_refl _ | exact Nat.le_succ _); have H8 : Hid (ValsAt w8 (some ⟨_, 0, none⟩) (snc [⟨l1, s, life⟩])) := Lib.hid (ValsAt.keep (S := [w1.drew.heap.size + 1]) ((snvals_one w1.drew ⟨l1, s, life⟩ 142).keep (S := []) ((Frm.refl _ _).alloc _) (by simp)) ((Frm.refl [w1.drew.heap.size + 1] _).grown happ8.grown (fun k hk => .inl (by cases hk; first | exact List.mem_singleton.2 rfl | simp))) (fun _ q hq => by cases hq; simp)); clear happ8 g8; have cp8 := cp _ T8; have cq8 := fun o => cp _ (T8.alloc o))
            | (refine step_appS (by rfl) (.tmp 41) (.tmp 51) 31 rfl w1.heap.size 142 i0 (.agg #[.int .u64 0, .int .u64 0, .int .u64 0]) 3 24 Tryz.underlying31 HI.out HZ0.out rfl (by decide) HZ1.out HZ2.out (by decide) _ n (snc X) rfl (by have h := (O8.out).own; rw [← HN.out] at h; exact h) _ 1 1 (snc [⟨l1, s, life⟩]) rfl (H8.out) rfl (snc_one _) (fun h => by cases h) hfit2 (by refine Frm.size (S := []) (w := w1) ?_; repeat (first | exact T8 | apply Frm.drew | apply Frm.alloc)) (n + 1) rfl ?_; intro a9 c9 w9 happ9; have g9 := (O8.out).app HN.out HFS.out rfl (fun x hx => Nat.lt_of_lt_of_le (HPF.out x hx) (Frm.size (S := []) (w := w1) (by repeat (first | exact T8 | apply Frm.drew | apply Frm.alloc)))) happ9; have O9 : Hid (SOwn w9 w1.heap.size 142 (p :: F) a9 c9 (X ++ [⟨l1, s, life⟩])) := Lib.hid g9.1; have T9 : Frm [] w1 w9 := frm_app3 (by repeat (first | exact T8 | apply Frm.drew | apply Frm.alloc)) happ9 (fun g hg => (O8.out.blk_lt g (ownBlk3.1 hg)).1); clear happ9 g9; have cp9 := cp _ T9; have fp9 := FRZ.out _ T9)
            | (refine step_appS (by rfl) (.tmp 41) (.tmp 51) 31 rfl w1.heap.size 142 i0 (.agg #[.int .u64 0, .int .u64 0, .int .u64 0]) 3 24 Tryz.underlying31 HI.out HZ0.out rfl (by decide) HZ1.out HZ2.out (by decide) _ n (snc X) rfl (by have h := (O8.out.keep (S := []) (F := p :: F) (F' := p :: F) ((Frm.refl [] w8).alloc (.cells #[.int .u64 (l1 : Nat), .int .u64 (s : Nat), .int .u64 (life : Nat)] 142)) (by simp) (fun _ hx => .inl hx)).own; rw [← HN.out] at h; exact h) _ 1 1 (snc [⟨l1, s, life⟩]) rfl (snvals_one w8 ⟨l1, s, life⟩ _) rfl (snc_one _) (fun h => by cases h) hfit2 (by refine Frm.size (S := []) (w := w1) ?_; repeat (first | exact T8 | apply Frm.drew | apply Frm.alloc)) (n + 1) rfl ?_; intro a9 c9 w9 happ9; have g9 := (O8.out.keep (S := []) (F := p :: F) (F' := p :: F) ((Frm.refl [] w8).alloc (.cells #[.int .u64 (l1 : Nat), .int .u64 (s : Nat), .int .u64 (life : Nat)] 142)) (by simp) (fun _ hx => .inl hx)).app HN.out HFS.out rfl (fun x hx => Nat.lt_of_lt_of_le (HPF.out x hx) (Frm.size (S := []) (w := w1) (by repeat (first | exact T8 | apply Frm.drew | apply Frm.alloc)))) happ9; have O9 : Hid (SOwn w9 w1.heap.size 142 (p :: F) a9 c9 (X ++ [⟨l1, s, life⟩])) := Lib.hid g9.1; have T9 : Frm [] w1 w9 := frm_app3 (by repeat (first | exact T8 | apply Frm.drew | apply Frm.alloc)) happ9 (fun g hg => (O8.out.blk_lt g (ownBlk3.1 hg)).1); clear happ9 g9; have cp9 := cp _ T9; have fp9 := FRZ.out _ T9))
          all_goals
            have hst := Sb.store HH.out T9 O9.out (by rw [List.length_append, ← HN.out]; have := HX16.out; have := HN.out; simp; omega)
            obtain ⟨af, cf, hrb, hfr, hjr, _⟩ := hst
            rw [List.length_append, ← HN.out] at hrb hfr hjr
            have HEND : Hid (∃ a' c', Sb (w9.setCell ⟨p, o + 1, none⟩ (.slice a9 (n + 1) c9)) B p o F a' c' l1 (X ++ [⟨l1, s, life⟩]) ∧ Frm [p] w (w9.setCell ⟨p, o + 1, none⟩ (.slice a9 (n + 1) c9)) ∧ Oth p o w (w9.setCell ⟨p, o + 1, none⟩ (.slice a9 (n + 1) c9))) := Lib.hid ⟨af, cf, hrb, HFW1.out.trans hfr (fun x hx => hx) (fun x hx => .inl hx), fun j h0 h1 => (hjr j h0 h1).trans (HO1.out j h0)⟩
            clear hrb hfr hjr cp cp8 cq8 ce1 ce2 T8 T9 O8 O9
            go_wp2
            go_ret2
            exact ⟨rfl, HEND.out⟩
    · have hc : openC last X.length life = 63 := by unfold openC; rw [if_neg (fun h => hl2 h.2)]
      have hr : openR last X.length life = 0 := by unfold openR; rw [hc]; rfl
      have ht : openT last X.length life = last := by unfold openT; rw [hc]; rfl
      have hX : openS X last now life = X := by unfold openS; rw [hc]; rfl
      rw [hc, hr, ht, hX]
      have d1 : ((life : Int) == 0) = false := by rw [beq_eq_false_iff_ne]; omega
      have d2 : decide ((1099511627776 : Int) < (life : Int)) = true := decide_eq_true (by omega)
      clear hc hr ht hX h
      go_enter Tryz.func36, Tryz.ntmps36
      go_wp2
      go_ret2
      exact ⟨rfl, HSAME.out⟩
  · have hc : openC last X.length life = 63 := by unfold openC; rw [if_neg (fun h => hl1 h.1)]
    have hr : openR last X.length life = 0 := by unfold openR; rw [hc]; rfl
    have ht : openT last X.length life = last := by unfold openT; rw [hc]; rfl
    have hX : openS X last now life = X := by unfold openS; rw [hc]; rfl
    rw [hc, hr, ht, hX]
    obtain rfl : life = 0 := by omega
    clear hc hr ht hX h
    go_enter Tryz.func36, Tryz.ntmps36
    go_wp2
    go_ret2
    exact ⟨rfl, HSAME.out⟩
end Go.Proofs.YtcbpppdmkhpkkaaGreat
/- Contract of the document's Renew. -/
namespace Go.Proofs.YtcbpppdmkhpkkaaGreat
open Go.RowKit

theorem SOwn.ends {w : World} {base cap g q : Nat} {e : TypeId} {F : List Nat} {X : List Sn} (h : SOwn w base e F (some ⟨g, 0, none⟩) cap X) (hq : q < X.length) (v : Nat) (hv : v < 18446744073709551616) :
    SOwn (w.setCell ⟨g, q * 3 + 1, none⟩ (.int .u64 (v : Nat))) base e F (some ⟨g, 0, none⟩) cap (X.set q { X.getD q default with ends := v }) := by
  have h0 := (h.own.stored (q * 3 + 1) (.int .u64 (v : Nat))).1
  rw [snc_ends X q v hq] at h0
  refine ⟨by rw [List.length_set]; exact h0, fun y hy => ?_, h.away⟩
  rcases List.mem_or_eq_of_mem_set hy with h1 | h1
  · exact h.fits y h1
  · subst h1
    have h2 := h.fits (X.getD q default) (by rw [getS hq]; exact List.getElem_mem hq)
    exact ⟨h2.1, hv, h2.2.2⟩
theorem SOwn.free {w : World} {base cap g : Nat} {e : TypeId} {F : List Nat} {X : List Sn} (h : SOwn w base e F (some ⟨g, 0, none⟩) cap X) (j : Nat) : w.frozen? ⟨g, j, none⟩ = false := by
  rcases h.own.2 with ⟨h', _⟩ | ⟨g', cap', cur, h', hb, hg, _⟩
  · simp at h'
  · simp only [Value.slice.injEq, Option.some.injEq, Addr.mk.injEq, and_true, true_and] at h'
    obtain ⟨rfl, rfl⟩ := h'
    exact frozen_of_row w _ _ cur e hg
theorem SOwn.shape {w : World} {base cap : Nat} {e : TypeId} {F : List Nat} {a : Option Addr} {X : List Sn} (h : SOwn w base e F a cap X) (hX : 0 < X.length) : ∃ g, a = some ⟨g, 0, none⟩ ∧ base ≤ g := by
  rcases h.own.2 with ⟨_, h'⟩ | ⟨g', cap', cur, h', hb, hg, _⟩
  · omega
  · simp only [Value.slice.injEq] at h'
    exact ⟨g', h'.1, hb⟩

end Go.Proofs.YtcbpppdmkhpkkaaGreat
/- Contract of the document's Renew, at a book inside a greater block. (For stage 8.) -/
namespace Go.Proofs.YtcbpppdmkhpkkaaGreat
open Go.RowKit

set_option maxRecDepth 100000 in
set_option maxHeartbeats 4000000 in
theorem sbrenew_any {w : World} {B p o : Nat} {F : List Nat} {a : Option Addr} {cap last : Nat} {X : List Sn} (id now : Nat) (h : Sb w B p o F a cap last X) (hF : ∀ x ∈ F, x < w.heap.size) (hnow : now < 18446744073709551616) :
    Calls Tryz.prog 37 #[.pointer (some ⟨p, o, none⟩), .int .u64 (id : Nat), .int .u64 (now : Nat)] w (SbEnd w B p o F last (renewL X id now) (.int .i64 (renewC X id now : Nat))) := by
  have hR := sbat_any id h
  have c1 := h.c1
  have HSAME : Hid (∃ a' c', Sb w B p o F a' c' last X ∧ Frm [p] w w ∧ Oth p o w w) := Lib.hid ⟨a, cap, h, Frm.refl _ _, fun _ _ _ => rfl⟩
  by_cases hin : atS X id < X.length
  · have hat : atSI X id = ((atS X id : Nat) : Int) := by unfold atSI; rw [if_pos hin]
    rw [hat] at hR
    have HR := Lib.hid hR; clear hR
    obtain ⟨b, off, rfl, q0, q1, q2, hxf⟩ := h.row.sl.at hin
    obtain ⟨x, hx⟩ : ∃ x, x = X.getD (atS X id) default := ⟨_, rfl⟩
    rw [← hx] at q0 q1 q2 hxf
    by_cases hover : x.ends ≤ now
    · have hc : renewC X id now = 15 := by unfold renewC; rw [if_pos hin, ← hx, if_pos hover]
      have hX : renewL X id now = X := by unfold renewL; rw [hc]; rfl
      rw [hc, hX]
      obtain ⟨q, hq⟩ : ∃ q, q = atS X id := ⟨_, rfl⟩
      obtain ⟨n, hnn⟩ : ∃ n, n = X.length := ⟨_, rfl⟩
      have hn16 := h.few
      rw [← hq] at hin q0 q1 q2 HR
      rw [← hnn] at hin c1 hn16
      clear h hx hc hX hq hnn hat
      go_enter Tryz.func37, Tryz.ntmps37
      go_wp2_with ((with_reducible refine HR.out.mono ?_); rintro e w' ⟨rfl, rfl⟩)
      go_ret
      exact ⟨rfl, HSAME.out⟩
    · have hc : renewC X id now = 0 := by unfold renewC; rw [if_pos hin, ← hx, if_neg hover]
      have hX : renewL X id now = renewS X (atS X id) now := by unfold renewL; rw [hc]; rfl
      rw [hc, hX]
      unfold renewS
      rw [← hx]
      obtain ⟨i0, hi, hz0, hz1, hz2⟩ := info_parts Tryz.info142
      have HI := Lib.hid hi; clear hi
      have HZ0 := Lib.hid hz0; clear hz0
      have HZ1 := Lib.hid hz1; clear hz1
      have HZ2 := Lib.hid hz2; clear hz2
      have HSU := Lib.hid (fun w => usum_any (w := w) now x.life hnow hxf.2.2)
      obtain ⟨s, hs⟩ : ∃ s, s = sumU now x.life := ⟨_, rfl⟩
      have hs64 : s < 18446744073709551616 := by rw [hs]; exact sumU_lt _ _
      rw [← hs] at HSU ⊢
      obtain ⟨q, hq⟩ : ∃ q, q = atS X id := ⟨_, rfl⟩
      obtain ⟨n, hnn⟩ : ∃ n, n = X.length := ⟨_, rfl⟩
      have hn16 : n ≤ 16 := by have := h.few; omega
      have hqn : q < n := by rw [hq, hnn]; exact hin
      rw [← hq] at q0 q1 q2 HR hx ⊢
      rw [← hnn] at c1
      have HH := Lib.hid h
      have HN := Lib.hid hnn
      have HX := Lib.hid hx
      have hpF : ∀ x ∈ p :: F, x < w.heap.size := fun x hx => by
        rcases List.mem_cons.1 hx with rfl | h1
        · exact HH.out.plt
        · exact hF x h1
      have HPF := Lib.hid hpF
      have VX := Lib.hid (fun (z : World) (hz : Frm [] w z) => (h.row.sl.keep (F' := p :: F) hz (by simp) (fun x h => .inl h)).vals)
      have HLX : Hid ((snc X).length = n * 3) := Lib.hid (by rw [snc_length, hnn])
      have HLIT : Hid (SOwn (w.alloc (.cells #[] 142)) w.heap.size 142 (p :: F) (some ⟨w.heap.size, 0, none⟩) 0 []) := Lib.hid ⟨World.ownsRow_lit w #[] 0 (Nat.le_refl _) (by unfold maxLen; omega) rfl, by simp, fun g hg hm => by simp at hg; subst hg; have h1 := hpF _ hm; omega⟩
      have hfit1 : 0 + n ≤ 1000000000 := by omega
      have hsame : ¬ x.ends < s → ({ x with ends := max x.ends s } : Sn) = x := fun h1 => by rw [Nat.max_eq_left (by omega)]
      have HSM := Lib.hid hsame
      have cA := (((Frm.refl [] w).alloc (.cells #[] 142)).cell (p := ⟨p, o + 1, none⟩) HH.out.plt (by simp)).trans HH.out.c1
      rw [← HN.out] at cA
      clear h hin hx hc hX hq hnn hat hpF hs hF hsame
      go_enter Tryz.func37, Tryz.ntmps37
      go_wp2_with fail
      (with_reducible refine HR.out.mono ?_)
      rintro e w' ⟨rfl, rfl⟩
      go_wp2_with (at_builtin; refine wpList_appS (by rfl) (.tmp 25) (.tmp 29) 31 rfl w.heap.size 142 i0 (.agg #[.int .u64 0, .int .u64 0, .int .u64 0]) 3 24 Tryz.underlying31 HI.out HZ0.out rfl (by decide) HZ1.out HZ2.out (by decide) (.slice (some ⟨w.heap.size, 0, none⟩) 0 0) 0 _ rfl HLIT.out.own _ n cap _ rfl (VX.out _ ((Frm.refl [] w).alloc _)) HLX.out (snc_one _) (fun h => by cases h) hfit1 (by simp) ?_)
      intro a3 c3 w3 happ
      have g3 := HLIT.out.app (X := []) rfl HH.out.row.fits HN.out (fun x hx => Nat.lt_of_lt_of_le (HPF.out x hx) (by simp)) happ
      have hf3 : Frm [] w w3 := frm_lit3 (Frm.refl _ _) happ
      have ho3 := g3.1
      rw [List.nil_append] at ho3
      obtain ⟨g, rfl, hg⟩ := ho3.shape (by rw [← HN.out]; omega)
      obtain ⟨b', off', he, r0, r1, r2, _⟩ := ho3.sl.at (i := q) (by rw [← HN.out]; exact hqn)
      cases he
      rw [← HX.out] at r0 r1 r2
      rw [Nat.zero_add] at r0 r1 r2
      have hfr := ho3.free (q * 3 + 1)
      have c13 := (hf3.cell (p := ⟨p, o + 1, none⟩) HH.out.plt (by simp)).trans HH.out.c1
      have f13 := (hf3.frozen (p := ⟨p, o + 1, none⟩) HH.out.plt (by simp)).trans (HH.out.free (o + 1))
      have hqX : q < X.length := by rw [← HN.out]; exact hqn
      have hst1 := Sb.store HH.out (hf3.setCell (p := ⟨g, q * 3 + 1, none⟩) (.inr hg) (.int .u64 (s : Nat))) (ho3.ends hqX s hs64) (by rw [List.length_set, ← HN.out]; exact hn16)
      have hst2 := Sb.store HH.out hf3 ho3 (by rw [← HN.out]; exact hn16)
      rw [List.length_set, ← HN.out, ← HX.out] at hst1
      rw [← HN.out] at hst2
      have HS1 := Lib.hid hst1
      have HS2 := Lib.hid hst2
      have hgp : ¬ g = p := fun e => by have := HH.out.plt; omega
      obtain ⟨xi, xe, xl⟩ := x
      simp only at r0 r1 r2 hover HSU
      clear hst1 hst2 happ g3 hf3 ho3 VX HLIT HLX cA HR HI HZ0 HZ1 HZ2 q0 q1 q2 c1 hfit1
      by_cases hgt : xe < s
      · go_wp2_with ((with_reducible refine (HSU.out _).mono ?_); rintro e w' ⟨rfl, rfl⟩)
        go_ret
        refine ⟨rfl, ?_⟩
        obtain ⟨a', c', hrb, hfb, hjb, _⟩ := HS1.out
        exact ⟨a', c', by rw [show max xe s = s by omega]; exact hrb, hfb, hjb⟩
      · go_wp2_with ((with_reducible refine (HSU.out _).mono ?_); rintro e w' ⟨rfl, rfl⟩)
        go_ret
        refine ⟨rfl, ?_⟩
        obtain ⟨a', c', hrb, hfb, hjb, _⟩ := HS2.out
        refine ⟨a', c', ?_, hfb, hjb⟩
        rw [HSM.out hgt, HX.out, getS hqX, List.set_getElem_self]
        exact hrb
  · have hat : atSI X id = -1 := by unfold atSI; rw [if_neg hin]
    rw [hat] at hR
    have HR := Lib.hid hR; clear hR
    have hc : renewC X id now = 11 := by unfold renewC; rw [if_neg hin]
    have hX : renewL X id now = X := by unfold renewL; rw [hc]; rfl
    rw [hc, hX]
    clear h hin hc hX hat
    go_enter Tryz.func37, Tryz.ntmps37
    go_wp2_with ((with_reducible refine HR.out.mono ?_); rintro e w' ⟨rfl, rfl⟩)
    go_ret
    exact ⟨rfl, HSAME.out⟩
end Go.Proofs.YtcbpppdmkhpkkaaGreat
/- The document's State in memory, its tree and its book by value: cells 0 to 3 of block q. -/
namespace Go.Proofs.YtcbpppdmkhpkkaaGreat
open Go.RowKit
set_option maxRecDepth 100000
structure Ds (w : World) (B q : Nat) (F : List Nat) (S : MS) : Prop where
  n0 : w.cell? ⟨q, 0, none⟩ = some (.int .u64 (S.now : Nat))
  tree : ∃ a c X, St w B q 1 F a c X ∧ Alike S.nodes X
  book : ∃ a c, Sb w B q 2 F a c S.last S.ses
/-- What lies in the block behind the State is as it was. -/
def OthS (q : Nat) (w w' : World) : Prop := ∀ j, 4 ≤ j → w'.cell? ⟨q, j, none⟩ = w.cell? ⟨q, j, none⟩
theorem OthS.refl (q : Nat) (w : World) : OthS q w w := fun _ _ => rfl
theorem OthS.trans {q : Nat} {a b c : World} (h : OthS q a b) (k : OthS q b c) : OthS q a c := fun j hj => (k j hj).trans (h j hj)
section
variable {w w' : World} {B q : Nat} {F : List Nat} {S : MS}
theorem Ds.plt (h : Ds w B q F S) : q < w.heap.size := block_lt_of_cell h.n0
theorem Ds.free (h : Ds w B q F S) (j : Nat) : w.frozen? ⟨q, j, none⟩ = false := by obtain ⟨a, c, hb⟩ := h.book; exact hb.free j
theorem Ds.out (h : Ds w B q F S) : q ∉ F := by obtain ⟨a, c, hb⟩ := h.book; exact hb.out
theorem Ds.hp (h : Ds w B q F S) : B ≤ q := by obtain ⟨a, c, hb⟩ := h.book; exact hb.hp
theorem Ds.c2 (h : Ds w B q F S) : w.cell? ⟨q, 2, none⟩ = some (.int .u64 (S.last : Nat)) := by obtain ⟨a, c, hb⟩ := h.book; exact hb.c0
theorem Ds.keep {T : List Nat} (h : Ds w B q F S) (hf : Frm T w w') (hq : q ∉ T) (hT : ∀ x ∈ T, x ∈ q :: F ∨ w.heap.size ≤ x) : Ds w' B q F S := by
  obtain ⟨a, c, X, ht, ha⟩ := h.tree
  obtain ⟨a2, c2, hb⟩ := h.book
  exact ⟨(hf.cell (p := ⟨q, 0, none⟩) h.plt hq).trans h.n0, ⟨a, c, X, ht.keep hf hq hT, ha⟩, ⟨a2, c2, hb.keep hf hq hT⟩⟩
theorem Ds.turnT {M : List Nd} (h : Ds w B q F S) (ht : ∃ X' a' c', St w' B q 1 F a' c' X' ∧ Alike M X' ∧ Frm [q] w w' ∧ OthT q 1 w w') : Ds w' B q F { S with nodes := M } ∧ Frm [q] w w' ∧ OthS q w w' := by
  obtain ⟨X', a', c', hs, ha, hf, ho⟩ := ht
  obtain ⟨a2, c2, hb⟩ := h.book
  refine ⟨⟨(ho 0 (by omega)).trans h.n0, ⟨a', c', X', hs, ha⟩, a2, c2, ⟨(ho 2 (by omega)).trans hb.c0, (ho 3 (by omega)).trans hb.c1, hs.free, hb.row.keep hf (fun x hx => .inl (by simp at hx; simp [hx])) (fun _ hx => .inl hx), hb.hp, hb.out, hb.few, hb.lt⟩⟩, hf, fun j hj => ho j (by omega)⟩
theorem Ds.turnB {last : Nat} {Y : List Sn} (h : Ds w B q F S) (ht : ∃ a' c', Sb w' B q 2 F a' c' last Y ∧ Frm [q] w w' ∧ Oth q 2 w w') : Ds w' B q F { S with last := last, ses := Y } ∧ Frm [q] w w' ∧ OthS q w w' := by
  obtain ⟨a', c', hb, hf, ho⟩ := ht
  obtain ⟨a, c, X, hs, ha⟩ := h.tree
  exact ⟨⟨(ho 0 (by omega) (by omega)).trans h.n0, ⟨a, c, X, ⟨(ho 1 (by omega) (by omega)).trans hs.c0, hb.free, hs.row.keep hf (fun x hx => .inl (by simp at hx; simp [hx])) (fun _ hx => .inl hx), hs.hp, hs.out, hs.few⟩, ha⟩, a', c', hb⟩, hf, fun j hj => ho j (by omega) (by omega)⟩
theorem Ds.turnN (n : Nat) (h : Ds w B q F S) : Ds (w.setCell ⟨q, 0, none⟩ (.int .u64 (n : Nat))) B q F { S with now := n } ∧ Frm [q] w (w.setCell ⟨q, 0, none⟩ (.int .u64 (n : Nat))) ∧ OthS q w (w.setCell ⟨q, 0, none⟩ (.int .u64 (n : Nat))) := by
  have hf : Frm [q] w (w.setCell ⟨q, 0, none⟩ (.int .u64 (n : Nat))) := (Frm.refl _ _).setCell (.inl (by simp)) _
  have ho : ∀ j, j ≠ 0 → (w.setCell ⟨q, 0, none⟩ (.int .u64 (n : Nat))).cell? ⟨q, j, none⟩ = w.cell? ⟨q, j, none⟩ := fun j hj => World.cell?_setCell_other _ _ _ _ (by first | (simp; done) | (simp; exact fun e => hj e.symm))
  have hz : ∀ j, (w.setCell ⟨q, 0, none⟩ (.int .u64 (n : Nat))).frozen? ⟨q, j, none⟩ = false := fun j => by rw [World.frozen?_setCell]; exact h.free j
  obtain ⟨a, c, X, hs, ha⟩ := h.tree
  obtain ⟨a2, c2, hb⟩ := h.book
  have hT : ∀ x ∈ [q], x ∈ q :: F ∨ w.heap.size ≤ x := fun x hx => .inl (by simp at hx; simp [hx])
  exact ⟨⟨World.cell?_setCell_same _ _ _ h.n0, ⟨a, c, X, ⟨(ho 1 (by omega)).trans hs.c0, hz, hs.row.keep hf hT (fun _ hx => .inl hx), hs.hp, hs.out, hs.few⟩, ha⟩, a2, c2, ⟨(ho 2 (by omega)).trans hb.c0, (ho 3 (by omega)).trans hb.c1, hz, hb.row.keep hf hT (fun _ hx => .inl hx), hb.hp, hb.out, hb.few, hb.lt⟩⟩, hf, fun j hj => ho j (by omega)⟩
end
/-- What a call on the State leaves. -/
def DsEnd (w : World) (B q : Nat) (F : List Nat) (S' : MS) (v : Value) (e : Ending) (w' : World) : Prop := e = .returned v ∧ Ds w' B q F S' ∧ Frm [q] w w' ∧ OthS q w w'
section
variable {w : World} {B q : Nat} {F : List Nat} {S : MS}
theorem ds_put (s : ByteArray) (va : Option Addr) (vn vc : Nat) (v : List Nat) (want own : Nat) (h : Ds w B q F S) (hG : Good S.nodes) (hF : ∀ x ∈ F, x < w.heap.size)
    (hb : Bytes w va v) (hv : vn = v.length) (hvn : va = none → vc = 0) (hs : s.size ≤ 9223372036854775807) (hw : want < 18446744073709551616) (ho : own < 18446744073709551616) :
    Calls Tryz.prog 34 #[.pointer (some ⟨q, 1, none⟩), .string s, .slice va vn vc, .int .u64 (want : Nat), .int .u64 (own : Nat)] w (DsEnd w B q F { S with nodes := putNL S.nodes s v want own } (.tuple #[.int .u64 (putNR S.nodes s v want : Nat), .int .i64 (putNC S.nodes s v want : Nat)])) := by
  obtain ⟨a, c, X, ht, ha⟩ := h.tree
  exact (sput_like s va vn vc v want own ht ha hG hF hb hv hvn hs hw ho).mono fun e w' he => ⟨he.1, h.turnT he.2⟩
theorem ds_del (s : ByteArray) (want : Nat) (h : Ds w B q F S) (hG : Good S.nodes) (hF : ∀ x ∈ F, x < w.heap.size) :
    Calls Tryz.prog 35 #[.pointer (some ⟨q, 1, none⟩), .string s, .int .u64 (want : Nat)] w (DsEnd w B q F { S with nodes := delL S.nodes s want } (.int .i64 (delN S.nodes s want : Nat))) := by
  obtain ⟨a, c, X, ht, ha⟩ := h.tree
  exact (sdel_like s want ht ha hG hF).mono fun e w' he => ⟨he.1, h.turnT he.2⟩
theorem ds_drop (o : Nat) (h : Ds w B q F S) (hF : ∀ x ∈ F, x < w.heap.size) :
    Calls Tryz.prog 39 #[.pointer (some ⟨q, 1, none⟩), .int .u64 (o : Nat)] w (DsEnd w B q F { S with nodes := keepD o S.nodes } (.tuple #[])) := by
  obtain ⟨a, c, X, ht, ha⟩ := h.tree
  exact (sdrop_like o ht ha hF).mono fun e w' he => ⟨he.1, h.turnT he.2⟩
theorem ds_live (id now : Nat) (h : Ds w B q F S) :
    Calls Tryz.prog 33 #[.pointer (some ⟨q, 2, none⟩), .int .u64 (id : Nat), .int .u64 (now : Nat)] w fun e w' => e = .returned (.bool (liveS S.ses id now)) ∧ w = w' := by
  obtain ⟨a, c, hb⟩ := h.book
  exact sblive_any id now hb
theorem ds_open (now life : Nat) (h : Ds w B q F S) (hF : ∀ x ∈ F, x < w.heap.size) (hnow : now < 18446744073709551616) (hlf : life < 18446744073709551616) :
    Calls Tryz.prog 36 #[.pointer (some ⟨q, 2, none⟩), .int .u64 (now : Nat), .int .u64 (life : Nat)] w (DsEnd w B q F { S with last := openT S.last S.ses.length life, ses := openS S.ses S.last now life } (.tuple #[.int .u64 (openR S.last S.ses.length life : Nat), .int .i64 (openC S.last S.ses.length life : Nat)])) := by
  obtain ⟨a, c, hb⟩ := h.book
  exact (sbopen_any now life hb hF hnow hlf).mono fun e w' he => ⟨he.1, h.turnB he.2⟩
theorem ds_renew (id now : Nat) (h : Ds w B q F S) (hF : ∀ x ∈ F, x < w.heap.size) (hnow : now < 18446744073709551616) :
    Calls Tryz.prog 37 #[.pointer (some ⟨q, 2, none⟩), .int .u64 (id : Nat), .int .u64 (now : Nat)] w (DsEnd w B q F { S with ses := renewL S.ses id now } (.int .i64 (renewC S.ses id now : Nat))) := by
  obtain ⟨a, c, hb⟩ := h.book
  exact (sbrenew_any id now hb hF hnow).mono fun e w' he => ⟨he.1, h.turnB he.2⟩
theorem ds_close (id : Nat) (h : Ds w B q F S) (hF : ∀ x ∈ F, x < w.heap.size) :
    Calls Tryz.prog 38 #[.pointer (some ⟨q, 2, none⟩), .int .u64 (id : Nat)] w (DsEnd w B q F { S with ses := closeL S.ses id } (.int .i64 (closeC S.ses id : Nat))) := by
  obtain ⟨a, c, hb⟩ := h.book
  exact (sbclose_any id hb hF).mono fun e w' he => ⟨he.1, h.turnB he.2⟩
theorem ds_expire (now : Nat) (h : Ds w B q F S) (hF : ∀ x ∈ F, x < w.heap.size) :
    Calls Tryz.prog 40 #[.pointer (some ⟨q, 2, none⟩), .int .u64 (now : Nat)] w fun e w' => ∃ ga gc, e = .returned (.slice ga (goneS now S.ses).length gc) ∧ (∀ x, ga = some x → w.heap.size ≤ x.block) ∧ ValsAt w' ga (uvs (goneS now S.ses)) ∧ Ds w' B q F { S with ses := leftS now S.ses } ∧ Frm [q] w w' ∧ OthS q w w' := by
  obtain ⟨a, c, hb⟩ := h.book
  refine (sbexpire_any now hb hF).mono ?_
  rintro e w' ⟨ga, gc, he, h1, h2, h3⟩
  exact ⟨ga, gc, he, h1, h2, h.turnB h3⟩
end
end Go.Proofs.YtcbpppdmkhpkkaaGreat
/- Contract of the document's State.Do. -/
namespace Go.Proofs.YtcbpppdmkhpkkaaGreat
open Go.RowKit
set_option maxRecDepth 100000
def RdEnd (w : World) (B q : Nat) (F : List Nat) (S : MS) (c : MC) (e : Ending) (w' : World) : Prop :=
  ∃ ga gc, e = .returned (.tuple #[.int .u64 (doN S c : Nat), .slice ga (doG S c).length gc, .int .i64 (doE S c : Nat)]) ∧ ValsAt w' ga (uvs (doG S c)) ∧ (∀ x, ga = some x → w.heap.size ≤ x.block) ∧ Ds w' B q F (doS S c) ∧ Frm [q] w w' ∧ OthS q w w'
theorem RdEnd.mk {w w1 : World} {B q : Nat} {F : List Nat} {S S' : MS} {c : MC} {n : Nat} {v : Value} {e : Nat} (hn : doN S c = n) (he : doE S c = e) (hg : doG S c = []) (hs : doS S c = S') (hm : Ds w1 B q F S') (hf : Frm [q] w w1) (ho : OthS q w w1) (hv : v = .tuple #[.int .u64 (n : Nat), .slice none 0 0, .int .i64 (e : Nat)]) : RdEnd w B q F S c (.returned v) w1 := by
  unfold RdEnd
  rw [hn, he, hg, hs, hv]
  exact ⟨none, 0, rfl, .inl rfl, (fun q hq => by cases hq), hm, hf, ho⟩
theorem OthS.frm {q : Nat} {w w' : World} (hf : Frm [] w w') (hq : q < w.heap.size) : OthS q w w' := fun j _ => hf.cell (p := ⟨q, j, none⟩) hq (by simp)

set_option maxHeartbeats 8000000 in
/-- Put: where the session is no live one, and where it is none or one. -/
theorem rdo_put {w : World} {B q : Nat} {F : List Nat} {S : MS} (c : MC) (a : Option Addr) (cap : Nat) (h : Ds w B q F S) (hM : MOk S) (hc : MCOk c) (hF : ∀ x ∈ F, x < w.heap.size) (hb : Bytes w a c.val) (hnil : a = none → cap = 0) (hk : c.kind = 1) :
    Calls Tryz.prog 14 #[.pointer (some ⟨q, 0, none⟩), cmdV c a cap] w (RdEnd w B q F S c) := by
  obtain ⟨w0, hw0⟩ : ∃ w0, w0 = w.alloc (.cells (cmdC c a cap) 42) := ⟨_, rfl⟩
  obtain ⟨g, hg⟩ : ∃ g, g = w.heap.size := ⟨_, rfl⟩
  obtain ⟨hW, hf0⟩ := cmd_at hw0 hg
  have hgq : g ≠ q := by have := h.plt; omega
  have h0 : Ds w0 B q F S := h.keep hf0 (by simp) (by simp)
  have hF0 : ∀ x ∈ F, x < w0.heap.size := fun x hx => Nat.lt_of_lt_of_le (hF x hx) hf0.size
  have hb0 := hf0.bytes' hb (by simp)
  have H0 := Lib.hid h0
  have HF0 := Lib.hid hf0
  have HFF := Lib.hid hF0
  have HM := Lib.hid hM
  have HC := Lib.hid hc
  have HB := Lib.hid hb0
  have HNIL := Lib.hid hnil
  have HW := Lib.hid hw0
  have HG := Lib.hid hg
  have HWG := Lib.hid hW
  have HQL := Lib.hid h.plt
  obtain ⟨Q, hQ⟩ : ∃ Q, Q = RdEnd w B q F S c := ⟨_, rfl⟩
  rw [← hQ]
  have HQ := Lib.hid hQ
  have d0 : w0.cell? ⟨g, 0, none⟩ = some (.int .u8 (c.kind : Nat)) := hW.cell 0
  have d1 : w0.cell? ⟨g, 1, none⟩ = some (.string c.key) := hW.cell 1
  have d2 : w0.cell? ⟨g, 2, none⟩ = some (.slice a c.val.length cap) := hW.cell 2
  have d3 : w0.cell? ⟨g, 3, none⟩ = some (.int .u64 (c.want : Nat)) := hW.cell 3
  have d4 : w0.cell? ⟨g, 4, none⟩ = some (.int .u64 (c.ses : Nat)) := hW.cell 4
  have n0 := h0.n0
  have HLV := Lib.hid (fun (m : Nat) => ds_live c.ses S.now ((H0.out.keep (Frm.refl [] w0).drew (by simp) (by simp)).keep ((Frm.refl [] w0.drew).drewN m) (by simp) (by simp)))
  rw [show cmdV c a cap = .agg #[.int .u8 (c.kind : Nat), .string c.key, .slice a c.val.length cap, .int .u64 (c.want : Nat), .int .u64 (c.ses : Nat), .int .u64 (c.ticks : Nat)] from rfl]
  rw [show cmdC c a cap = #[.int .u8 (c.kind : Nat), .string c.key, .slice a c.val.length cap, .int .u64 (c.want : Nat), .int .u64 (c.ses : Nat), .int .u64 (c.ticks : Nat)] from rfl] at HW
  have HK := Lib.hid hk
  rw [hk] at d0 HW ⊢
  rw [show ((1 : Nat) : Int) = 1 from rfl] at d0 HW ⊢
  clear h hM hc hF hb hnil hk hW hf0 h0 hF0 hb0 hQ hw0 hg
  have HPU := Lib.hid (show ∀ z, Frm [] w0 z → Calls Tryz.prog 34 #[.pointer (some ⟨q, 1, none⟩), .string c.key, .slice a c.val.length cap, .int .u64 (c.want : Nat), .int .u64 (c.ses : Nat)] z (DsEnd z B q F { S with nodes := putNL S.nodes c.key c.val c.want c.ses } (.tuple #[.int .u64 (putNR S.nodes c.key c.val c.want : Nat), .int .i64 (putNC S.nodes c.key c.val c.want : Nat)])) from fun z hz => ds_put c.key a c.val.length cap c.val c.want c.ses (H0.out.keep hz (by simp) (by simp)) HM.out.good (fun x hx => Nat.lt_of_lt_of_le (HFF.out x hx) hz.size) (hz.bytes' HB.out (by simp)) rfl HNIL.out (by have := HC.out.key; omega) HC.out.want HC.out.ses)
  have GO : Hid (∀ z w1, Frm [] w0 z → Ds w1 B q F { S with nodes := putNL S.nodes c.key c.val c.want c.ses } → Frm [q] z w1 → OthS q z w1 → expS S c.ses = false → Q (.returned (.tuple #[.int .u64 (putNR S.nodes c.key c.val c.want : Nat), .slice none 0 0, .int .i64 (putNC S.nodes c.key c.val c.want : Nat)])) w1) := Lib.hid fun z w1 hz hd hf ho hx => by
    rw [HQ.out]
    refine RdEnd.mk (S' := { S with nodes := putNL S.nodes c.key c.val c.want c.ses }) (n := putNR S.nodes c.key c.val c.want) (e := putNC S.nodes c.key c.val c.want) ?_ ?_ ?_ ?_ hd ((HF0.out.trans hz (U := []) (by simp) (by simp)).trans hf (by simp) (fun x hx => .inl hx)) ((OthS.frm (HF0.out.trans hz (U := []) (by simp) (by simp)) HQL.out).trans ho) rfl
    · unfold doN; rw [if_pos HK.out, if_neg (by rw [hx]; simp)]
    · unfold doE; rw [if_pos HK.out, if_neg (by rw [hx]; simp)]
    · unfold doG; rw [if_neg (by have := HK.out; omega)]
    · unfold doS; rw [if_pos HK.out, if_neg (by rw [hx]; simp)]
  obtain ⟨nn, hnn⟩ : ∃ nn, nn = putNR S.nodes c.key c.val c.want := ⟨_, rfl⟩
  obtain ⟨en, hen⟩ : ∃ en, en = putNC S.nodes c.key c.val c.want := ⟨_, rfl⟩
  rw [← hnn, ← hen] at HPU GO
  clear hnn hen
  by_cases hs0 : c.ses = 0
  · have e0 : ((c.ses : Int) != 0) = false := by rw [hs0]; rfl
    have HX : Hid (expS S c.ses = false) := Lib.hid (by rw [hs0]; rfl)
    clear hs0
    go_enter Tryz.func14, Tryz.ntmps14
    go_wp2
    rw [← HW.out, ← HG.out]
    go_quiet (fail)
    go_wp2
    have s1 : Frm [] w0 (w0.drewN (nq + 1)) := (Frm.refl _ _).drewN _
    go_region_law (first
      | (go_simp; go_at_call 34; (with_reducible refine (HPU.out _ s1).mono ?_); rintro e w2 ⟨rfl, hd2, hf2, ho2⟩))
    all_goals
      have HE := Lib.hid (GO.out _ _ s1 hd2 hf2 ho2 HX.out)
      clear hd2 hf2 ho2
      go_wp2
      exact HE.out
  have e0 : ((c.ses : Int) != 0) = true := by simp; omega
  have hxe : expS S c.ses = !liveS S.ses c.ses S.now := by unfold expS expB; rw [decide_eq_true hs0]; rfl
  have HXE := Lib.hid hxe
  clear hs0 hxe
  have HLV := Lib.hid (fun (m : Nat) => ds_live c.ses S.now (H0.out.keep ((Frm.refl [] w0).drewN m) (by simp) (by simp)))
  cases hl : liveS S.ses c.ses S.now
  · rw [hl] at HLV HXE
    have HE : Hid (∀ m, Q (.returned (.tuple #[.int .u64 0, .slice none 0 0, .int .i64 15])) (w0.drewN m)) := Lib.hid fun m => by
      have hz : Frm [] w (w0.drewN m) := HF0.out.drewN m
      rw [HQ.out]
      refine RdEnd.mk (S' := S) (n := 0) (e := 15) ?_ ?_ ?_ ?_ (H0.out.keep ((Frm.refl [] w0).drewN m) (by simp) (by simp)) (hz.weak (by simp)) (OthS.frm hz HQL.out) rfl
      · unfold doN; rw [if_pos HK.out, if_pos (by rw [HXE.out]; rfl)]
      · unfold doE; rw [if_pos HK.out, if_pos (by rw [HXE.out]; rfl)]
      · unfold doG; rw [if_neg (by have := HK.out; omega)]
      · unfold doS; rw [if_pos HK.out, if_pos (by rw [HXE.out]; rfl)]
    clear hl
    go_enter Tryz.func14, Tryz.ntmps14
    go_wp2
    rw [← HW.out, ← HG.out]
    go_quiet ((go_at_call 33; exact Calls.quiet_of_same ((HLV.out _).mono fun _ _ h => ⟨h.1, h.2.symm⟩)))
    go_wp2
    exact HE.out _
  · rw [hl] at HLV HXE
    clear hl
    go_enter Tryz.func14, Tryz.ntmps14
    go_wp2
    rw [← HW.out, ← HG.out]
    go_quiet ((go_at_call 33; exact Calls.quiet_of_same ((HLV.out _).mono fun _ _ h => ⟨h.1, h.2.symm⟩)))
    go_wp2
    have s1 : Frm [] w0 (w0.drewN (nq + 1)) := (Frm.refl _ _).drewN _
    go_region_law (first
      | (go_simp; go_at_call 34; (with_reducible refine (HPU.out _ s1).mono ?_); rintro e w2 ⟨rfl, hd2, hf2, ho2⟩))
    all_goals
      have HE := Lib.hid (GO.out _ _ s1 hd2 hf2 ho2 (by rw [HXE.out]; rfl))
      clear hd2 hf2 ho2
      go_wp2
      exact HE.out
end Go.Proofs.YtcbpppdmkhpkkaaGreat
/- Contract of the document's State.Do: Delete, Open. (Made by wip/mk-rd.py.) -/
namespace Go.Proofs.YtcbpppdmkhpkkaaGreat
open Go.RowKit
set_option maxRecDepth 100000

set_option maxHeartbeats 8000000 in
/-- Delete. -/
theorem rdo_del {w : World} {B q : Nat} {F : List Nat} {S : MS} (c : MC) (a : Option Addr) (cap : Nat) (h : Ds w B q F S) (hM : MOk S) (hc : MCOk c) (hF : ∀ x ∈ F, x < w.heap.size) (hk : c.kind = 2) :
    Calls Tryz.prog 14 #[.pointer (some ⟨q, 0, none⟩), cmdV c a cap] w (RdEnd w B q F S c) := by
  obtain ⟨w0, hw0⟩ : ∃ w0, w0 = w.alloc (.cells (cmdC c a cap) 42) := ⟨_, rfl⟩
  obtain ⟨g, hg⟩ : ∃ g, g = w.heap.size := ⟨_, rfl⟩
  obtain ⟨hW, hf0⟩ := cmd_at hw0 hg
  have hgq : g ≠ q := by have := h.plt; omega
  have h0 : Ds w0 B q F S := h.keep hf0 (by simp) (by simp)
  have hF0 : ∀ x ∈ F, x < w0.heap.size := fun x hx => Nat.lt_of_lt_of_le (hF x hx) hf0.size
  have H0 := Lib.hid h0
  have HF0 := Lib.hid hf0
  have HFF := Lib.hid hF0
  have HM := Lib.hid hM
  have HC := Lib.hid hc
  have HW := Lib.hid hw0
  have HG := Lib.hid hg
  have HWG := Lib.hid hW
  have HQL := Lib.hid h.plt
  obtain ⟨Q, hQ⟩ : ∃ Q, Q = RdEnd w B q F S c := ⟨_, rfl⟩
  rw [← hQ]
  have HQ := Lib.hid hQ
  have d0 : w0.cell? ⟨g, 0, none⟩ = some (.int .u8 (c.kind : Nat)) := hW.cell 0
  have d1 : w0.cell? ⟨g, 1, none⟩ = some (.string c.key) := hW.cell 1
  have d3 : w0.cell? ⟨g, 3, none⟩ = some (.int .u64 (c.want : Nat)) := hW.cell 3
  have d4 : w0.cell? ⟨g, 4, none⟩ = some (.int .u64 (c.ses : Nat)) := hW.cell 4
  have d5 : w0.cell? ⟨g, 5, none⟩ = some (.int .u64 (c.ticks : Nat)) := hW.cell 5
  have n0 := h0.n0
  rw [show cmdV c a cap = .agg #[.int .u8 (c.kind : Nat), .string c.key, .slice a c.val.length cap, .int .u64 (c.want : Nat), .int .u64 (c.ses : Nat), .int .u64 (c.ticks : Nat)] from rfl]
  rw [show cmdC c a cap = #[.int .u8 (c.kind : Nat), .string c.key, .slice a c.val.length cap, .int .u64 (c.want : Nat), .int .u64 (c.ses : Nat), .int .u64 (c.ticks : Nat)] from rfl] at HW
  have HK := Lib.hid hk
  have hnow : S.now < 18446744073709551616 := by have := hM.now; omega
  rw [hk] at d0 HW ⊢
  rw [show ((2 : Nat) : Int) = 2 from rfl] at d0 HW ⊢
  have KEEP := Lib.hid (fun (z : World) (hz : Frm [] w0 z) => (show Ds z B q F S ∧ (∀ x ∈ F, x < z.heap.size) ∧ Frm [] w z ∧ OthS q w z from ⟨h0.keep hz (by simp) (by simp), fun x hx => Nat.lt_of_lt_of_le (hF0 x hx) hz.size, hf0.trans hz (U := []) (by simp) (by simp), OthS.frm (hf0.trans hz (U := []) (by simp) (by simp)) h.plt⟩))
  clear h hM hc hF hk hW hf0 h0 hF0 hQ hw0 hg
  have HCA := Lib.hid (fun (z : World) (hz : Frm [] w0 z) => ds_del c.key c.want (KEEP.out z hz).1 HM.out.good (KEEP.out z hz).2.1)
  have GO : Hid (∀ z w1, Frm [] w0 z → Ds w1 B q F { S with nodes := delL S.nodes c.key c.want } → Frm [q] z w1 → OthS q z w1 → Q (.returned (.tuple #[.int .u64 (0 : Nat), .slice none 0 0, .int .i64 (delN S.nodes c.key c.want : Nat)])) w1) := Lib.hid fun z w1 hz hd hf ho => by
    have HZ := KEEP.out z hz
    rw [HQ.out]
    refine RdEnd.mk (S' := { S with nodes := delL S.nodes c.key c.want }) (n := 0) (e := delN S.nodes c.key c.want) ?_ ?_ ?_ ?_ hd (HZ.2.2.1.trans hf (by simp) (fun x hx => .inl hx)) (HZ.2.2.2.trans ho) rfl
    · unfold doN; rw [if_neg (by have := HK.out; omega), if_neg (by have := HK.out; omega), if_neg (by have := HK.out; omega)]
    · unfold doE; rw [if_neg (by have := HK.out; omega), if_pos HK.out]
    · unfold doG; rw [if_neg (by have := HK.out; omega)]
    · unfold doS; rw [if_neg (by have := HK.out; omega), if_pos HK.out]
  obtain ⟨en, hen⟩ : ∃ en, en = delN S.nodes c.key c.want := ⟨_, rfl⟩
  rw [← hen] at GO HCA
  rw [show ((0 : Nat) : Int) = 0 from rfl] at GO
  clear hen
  go_enter Tryz.func14, Tryz.ntmps14
  go_wp2
  rw [← HW.out, ← HG.out]
  go_quiet (fail)
  go_wp2
  have s1 : Frm [] w0 (w0.drewN (nq + 1)) := (Frm.refl _ _).drewN _
  go_region_law (first
    | (go_simp; go_at_call 35; (with_reducible refine (HCA.out _ s1).mono ?_); rintro e w2 ⟨rfl, hd2, hf2, ho2⟩))
  all_goals
    have HE := Lib.hid (GO.out _ _ s1 hd2 hf2 ho2)
    clear hd2 hf2 ho2
    go_wp2
    first
      | exact HE.out
      | (go_ret3; exact HE.out)

set_option maxHeartbeats 8000000 in
/-- Open. -/
theorem rdo_open {w : World} {B q : Nat} {F : List Nat} {S : MS} (c : MC) (a : Option Addr) (cap : Nat) (h : Ds w B q F S) (hM : MOk S) (hc : MCOk c) (hF : ∀ x ∈ F, x < w.heap.size) (hk : c.kind = 3) :
    Calls Tryz.prog 14 #[.pointer (some ⟨q, 0, none⟩), cmdV c a cap] w (RdEnd w B q F S c) := by
  obtain ⟨w0, hw0⟩ : ∃ w0, w0 = w.alloc (.cells (cmdC c a cap) 42) := ⟨_, rfl⟩
  obtain ⟨g, hg⟩ : ∃ g, g = w.heap.size := ⟨_, rfl⟩
  obtain ⟨hW, hf0⟩ := cmd_at hw0 hg
  have hgq : g ≠ q := by have := h.plt; omega
  have h0 : Ds w0 B q F S := h.keep hf0 (by simp) (by simp)
  have hF0 : ∀ x ∈ F, x < w0.heap.size := fun x hx => Nat.lt_of_lt_of_le (hF x hx) hf0.size
  have H0 := Lib.hid h0
  have HF0 := Lib.hid hf0
  have HFF := Lib.hid hF0
  have HM := Lib.hid hM
  have HC := Lib.hid hc
  have HW := Lib.hid hw0
  have HG := Lib.hid hg
  have HWG := Lib.hid hW
  have HQL := Lib.hid h.plt
  obtain ⟨Q, hQ⟩ : ∃ Q, Q = RdEnd w B q F S c := ⟨_, rfl⟩
  rw [← hQ]
  have HQ := Lib.hid hQ
  have d0 : w0.cell? ⟨g, 0, none⟩ = some (.int .u8 (c.kind : Nat)) := hW.cell 0
  have d1 : w0.cell? ⟨g, 1, none⟩ = some (.string c.key) := hW.cell 1
  have d3 : w0.cell? ⟨g, 3, none⟩ = some (.int .u64 (c.want : Nat)) := hW.cell 3
  have d4 : w0.cell? ⟨g, 4, none⟩ = some (.int .u64 (c.ses : Nat)) := hW.cell 4
  have d5 : w0.cell? ⟨g, 5, none⟩ = some (.int .u64 (c.ticks : Nat)) := hW.cell 5
  have n0 := h0.n0
  rw [show cmdV c a cap = .agg #[.int .u8 (c.kind : Nat), .string c.key, .slice a c.val.length cap, .int .u64 (c.want : Nat), .int .u64 (c.ses : Nat), .int .u64 (c.ticks : Nat)] from rfl]
  rw [show cmdC c a cap = #[.int .u8 (c.kind : Nat), .string c.key, .slice a c.val.length cap, .int .u64 (c.want : Nat), .int .u64 (c.ses : Nat), .int .u64 (c.ticks : Nat)] from rfl] at HW
  have HK := Lib.hid hk
  have hnow : S.now < 18446744073709551616 := by have := hM.now; omega
  rw [hk] at d0 HW ⊢
  rw [show ((3 : Nat) : Int) = 3 from rfl] at d0 HW ⊢
  have KEEP := Lib.hid (fun (z : World) (hz : Frm [] w0 z) => (show Ds z B q F S ∧ (∀ x ∈ F, x < z.heap.size) ∧ Frm [] w z ∧ OthS q w z from ⟨h0.keep hz (by simp) (by simp), fun x hx => Nat.lt_of_lt_of_le (hF0 x hx) hz.size, hf0.trans hz (U := []) (by simp) (by simp), OthS.frm (hf0.trans hz (U := []) (by simp) (by simp)) h.plt⟩))
  clear h hM hc hF hk hW hf0 h0 hF0 hQ hw0 hg
  have HCA := Lib.hid (fun (z : World) (hz : Frm [] w0 z) => ds_open S.now c.ticks (KEEP.out z hz).1 (KEEP.out z hz).2.1 hnow HC.out.ticks)
  have GO : Hid (∀ z w1, Frm [] w0 z → Ds w1 B q F { S with last := openT S.last S.ses.length c.ticks, ses := openS S.ses S.last S.now c.ticks } → Frm [q] z w1 → OthS q z w1 → Q (.returned (.tuple #[.int .u64 (openR S.last S.ses.length c.ticks : Nat), .slice none 0 0, .int .i64 (openC S.last S.ses.length c.ticks : Nat)])) w1) := Lib.hid fun z w1 hz hd hf ho => by
    have HZ := KEEP.out z hz
    rw [HQ.out]
    refine RdEnd.mk (S' := { S with last := openT S.last S.ses.length c.ticks, ses := openS S.ses S.last S.now c.ticks }) (n := openR S.last S.ses.length c.ticks) (e := openC S.last S.ses.length c.ticks) ?_ ?_ ?_ ?_ hd (HZ.2.2.1.trans hf (by simp) (fun x hx => .inl hx)) (HZ.2.2.2.trans ho) rfl
    · unfold doN; rw [if_neg (by have := HK.out; omega), if_pos HK.out]
    · unfold doE; rw [if_neg (by have := HK.out; omega), if_neg (by have := HK.out; omega), if_pos HK.out]
    · unfold doG; rw [if_neg (by have := HK.out; omega)]
    · unfold doS; rw [if_neg (by have := HK.out; omega), if_neg (by have := HK.out; omega), if_pos HK.out]
  obtain ⟨en, hen⟩ : ∃ en, en = openC S.last S.ses.length c.ticks := ⟨_, rfl⟩
  rw [← hen] at GO HCA
  obtain ⟨nn, hnn⟩ : ∃ nn, nn = openR S.last S.ses.length c.ticks := ⟨_, rfl⟩
  rw [← hnn] at GO HCA
  clear hen hnn
  go_enter Tryz.func14, Tryz.ntmps14
  go_wp2
  rw [← HW.out, ← HG.out]
  go_quiet (fail)
  go_wp2
  have s1 : Frm [] w0 (w0.drewN (nq + 1)) := (Frm.refl _ _).drewN _
  go_region_law (first
    | (go_simp; go_at_call 36; (with_reducible refine (HCA.out _ s1).mono ?_); rintro e w2 ⟨rfl, hd2, hf2, ho2⟩))
  all_goals
    have HE := Lib.hid (GO.out _ _ s1 hd2 hf2 ho2)
    clear hd2 hf2 ho2
    go_wp2
    first
      | exact HE.out
      | (go_ret3; exact HE.out)
end Go.Proofs.YtcbpppdmkhpkkaaGreat
/- Contract of the document's State.Do: Renew, Close. (Made by wip/mk-rd.py.) -/
namespace Go.Proofs.YtcbpppdmkhpkkaaGreat
open Go.RowKit
set_option maxRecDepth 100000

set_option maxHeartbeats 8000000 in
/-- Renew. -/
theorem rdo_renew {w : World} {B q : Nat} {F : List Nat} {S : MS} (c : MC) (a : Option Addr) (cap : Nat) (h : Ds w B q F S) (hM : MOk S) (hc : MCOk c) (hF : ∀ x ∈ F, x < w.heap.size) (hk : c.kind = 4) :
    Calls Tryz.prog 14 #[.pointer (some ⟨q, 0, none⟩), cmdV c a cap] w (RdEnd w B q F S c) := by
  obtain ⟨w0, hw0⟩ : ∃ w0, w0 = w.alloc (.cells (cmdC c a cap) 42) := ⟨_, rfl⟩
  obtain ⟨g, hg⟩ : ∃ g, g = w.heap.size := ⟨_, rfl⟩
  obtain ⟨hW, hf0⟩ := cmd_at hw0 hg
  have hgq : g ≠ q := by have := h.plt; omega
  have h0 : Ds w0 B q F S := h.keep hf0 (by simp) (by simp)
  have hF0 : ∀ x ∈ F, x < w0.heap.size := fun x hx => Nat.lt_of_lt_of_le (hF x hx) hf0.size
  have H0 := Lib.hid h0
  have HF0 := Lib.hid hf0
  have HFF := Lib.hid hF0
  have HM := Lib.hid hM
  have HC := Lib.hid hc
  have HW := Lib.hid hw0
  have HG := Lib.hid hg
  have HWG := Lib.hid hW
  have HQL := Lib.hid h.plt
  obtain ⟨Q, hQ⟩ : ∃ Q, Q = RdEnd w B q F S c := ⟨_, rfl⟩
  rw [← hQ]
  have HQ := Lib.hid hQ
  have d0 : w0.cell? ⟨g, 0, none⟩ = some (.int .u8 (c.kind : Nat)) := hW.cell 0
  have d1 : w0.cell? ⟨g, 1, none⟩ = some (.string c.key) := hW.cell 1
  have d3 : w0.cell? ⟨g, 3, none⟩ = some (.int .u64 (c.want : Nat)) := hW.cell 3
  have d4 : w0.cell? ⟨g, 4, none⟩ = some (.int .u64 (c.ses : Nat)) := hW.cell 4
  have d5 : w0.cell? ⟨g, 5, none⟩ = some (.int .u64 (c.ticks : Nat)) := hW.cell 5
  have n0 := h0.n0
  rw [show cmdV c a cap = .agg #[.int .u8 (c.kind : Nat), .string c.key, .slice a c.val.length cap, .int .u64 (c.want : Nat), .int .u64 (c.ses : Nat), .int .u64 (c.ticks : Nat)] from rfl]
  rw [show cmdC c a cap = #[.int .u8 (c.kind : Nat), .string c.key, .slice a c.val.length cap, .int .u64 (c.want : Nat), .int .u64 (c.ses : Nat), .int .u64 (c.ticks : Nat)] from rfl] at HW
  have HK := Lib.hid hk
  have hnow : S.now < 18446744073709551616 := by have := hM.now; omega
  rw [hk] at d0 HW ⊢
  rw [show ((4 : Nat) : Int) = 4 from rfl] at d0 HW ⊢
  have KEEP := Lib.hid (fun (z : World) (hz : Frm [] w0 z) => (show Ds z B q F S ∧ (∀ x ∈ F, x < z.heap.size) ∧ Frm [] w z ∧ OthS q w z from ⟨h0.keep hz (by simp) (by simp), fun x hx => Nat.lt_of_lt_of_le (hF0 x hx) hz.size, hf0.trans hz (U := []) (by simp) (by simp), OthS.frm (hf0.trans hz (U := []) (by simp) (by simp)) h.plt⟩))
  clear h hM hc hF hk hW hf0 h0 hF0 hQ hw0 hg
  have HCA := Lib.hid (fun (z : World) (hz : Frm [] w0 z) => ds_renew c.ses S.now (KEEP.out z hz).1 (KEEP.out z hz).2.1 hnow)
  have GO : Hid (∀ z w1, Frm [] w0 z → Ds w1 B q F { S with ses := renewL S.ses c.ses S.now } → Frm [q] z w1 → OthS q z w1 → expS S c.ses = false → Q (.returned (.tuple #[.int .u64 0, .slice none 0 0, .int .i64 (renewC S.ses c.ses S.now : Nat)])) w1) := Lib.hid fun z w1 hz hd hf ho hx => by
    have HZ := KEEP.out z hz
    rw [HQ.out]
    refine RdEnd.mk (S' := { S with ses := renewL S.ses c.ses S.now }) (n := 0) (e := renewC S.ses c.ses S.now) ?_ ?_ ?_ ?_ hd (HZ.2.2.1.trans hf (by simp) (fun x hx => .inl hx)) (HZ.2.2.2.trans ho) rfl
    · unfold doN; rw [if_neg (by have := HK.out; omega), if_neg (by have := HK.out; omega), if_neg (by have := HK.out; omega)]
    · unfold doE; rw [if_neg (by have := HK.out; omega), if_neg (by have := HK.out; omega), if_neg (by have := HK.out; omega), if_pos HK.out, if_neg (by rw [hx]; simp)]
    · unfold doG; rw [if_neg (by have := HK.out; omega)]
    · unfold doS; rw [if_neg (by have := HK.out; omega), if_neg (by have := HK.out; omega), if_neg (by have := HK.out; omega), if_pos HK.out, if_neg (by rw [hx]; simp)]
  have BAD : Hid (∀ m, expS S c.ses = true → Q (.returned (.tuple #[.int .u64 0, .slice none 0 0, .int .i64 15])) (w0.drewN m)) := Lib.hid fun m hx => by
    have HZ := KEEP.out (w0.drewN m) ((Frm.refl _ _).drewN m)
    rw [HQ.out]
    refine RdEnd.mk (S' := S) (n := 0) (e := 15) ?_ ?_ ?_ ?_ HZ.1 (HZ.2.2.1.weak (by simp)) HZ.2.2.2 rfl
    · unfold doN; rw [if_neg (by have := HK.out; omega), if_neg (by have := HK.out; omega), if_neg (by have := HK.out; omega)]
    · unfold doE; rw [if_neg (by have := HK.out; omega), if_neg (by have := HK.out; omega), if_neg (by have := HK.out; omega), if_pos HK.out, if_pos hx]
    · unfold doG; rw [if_neg (by have := HK.out; omega)]
    · unfold doS; rw [if_neg (by have := HK.out; omega), if_neg (by have := HK.out; omega), if_neg (by have := HK.out; omega), if_pos HK.out, if_pos hx]
  obtain ⟨en, hen⟩ : ∃ en, en = renewC S.ses c.ses S.now := ⟨_, rfl⟩
  rw [← hen] at GO HCA
  clear hen
  by_cases hs0 : c.ses = 0
  · have e0 : ((c.ses : Int) != 0) = false := by rw [hs0]; rfl
    have HX : Hid (expS S c.ses = false) := Lib.hid (by rw [hs0]; rfl)
    clear hs0
    go_enter Tryz.func14, Tryz.ntmps14
    go_wp2
    rw [← HW.out, ← HG.out]
    go_quiet (fail)
    go_wp2
    have s1 : Frm [] w0 (w0.drewN (nq + 1)) := (Frm.refl _ _).drewN _
    go_region_law (first
      | (go_simp; go_at_call 37; (with_reducible refine (HCA.out _ s1).mono ?_); rintro e w2 ⟨rfl, hd2, hf2, ho2⟩))
    all_goals
      have HE := Lib.hid (GO.out _ _ s1 hd2 hf2 ho2 HX.out)
      clear hd2 hf2 ho2
      go_wp2
      first
        | exact HE.out
        | (go_ret3; exact HE.out)
  have e0 : ((c.ses : Int) != 0) = true := by simp; omega
  have hxe : expS S c.ses = !liveS S.ses c.ses S.now := by unfold expS expB; rw [decide_eq_true hs0]; rfl
  have HXE := Lib.hid hxe
  clear hs0 hxe
  have HLV := Lib.hid (fun (m : Nat) => ds_live c.ses S.now (H0.out.keep ((Frm.refl [] w0).drewN m) (by simp) (by simp)))
  cases hl : liveS S.ses c.ses S.now
  · rw [hl] at HLV HXE
    clear hl
    go_enter Tryz.func14, Tryz.ntmps14
    go_wp2
    rw [← HW.out, ← HG.out]
    go_quiet ((go_at_call 33; exact Calls.quiet_of_same ((HLV.out _).mono fun _ _ h => ⟨h.1, h.2.symm⟩)))
    go_wp2
    exact BAD.out _ (by rw [HXE.out]; rfl)
  · rw [hl] at HLV HXE
    clear hl
    go_enter Tryz.func14, Tryz.ntmps14
    go_wp2
    rw [← HW.out, ← HG.out]
    go_quiet ((go_at_call 33; exact Calls.quiet_of_same ((HLV.out _).mono fun _ _ h => ⟨h.1, h.2.symm⟩)))
    go_wp2
    have s1 : Frm [] w0 (w0.drewN (nq + 1)) := (Frm.refl _ _).drewN _
    go_region_law (first
      | (go_simp; go_at_call 37; (with_reducible refine (HCA.out _ s1).mono ?_); rintro e w2 ⟨rfl, hd2, hf2, ho2⟩))
    all_goals
      have HE := Lib.hid (GO.out _ _ s1 hd2 hf2 ho2 (by rw [HXE.out]; rfl))
      clear hd2 hf2 ho2
      go_wp2
      first
        | exact HE.out
        | (go_ret3; exact HE.out)
end Go.Proofs.YtcbpppdmkhpkkaaGreat
/- Contract of the document's State.Do: Snap, no kind. (Made by wip/mk-rd.py.) -/
namespace Go.Proofs.YtcbpppdmkhpkkaaGreat
open Go.RowKit
set_option maxRecDepth 100000

set_option maxHeartbeats 8000000 in
/-- Snap. -/
theorem rdo_snap {w : World} {B q : Nat} {F : List Nat} {S : MS} (c : MC) (a : Option Addr) (cap : Nat) (h : Ds w B q F S) (hM : MOk S) (hc : MCOk c) (hF : ∀ x ∈ F, x < w.heap.size) (hk : c.kind = 7) :
    Calls Tryz.prog 14 #[.pointer (some ⟨q, 0, none⟩), cmdV c a cap] w (RdEnd w B q F S c) := by
  obtain ⟨w0, hw0⟩ : ∃ w0, w0 = w.alloc (.cells (cmdC c a cap) 42) := ⟨_, rfl⟩
  obtain ⟨g, hg⟩ : ∃ g, g = w.heap.size := ⟨_, rfl⟩
  obtain ⟨hW, hf0⟩ := cmd_at hw0 hg
  have hgq : g ≠ q := by have := h.plt; omega
  have h0 : Ds w0 B q F S := h.keep hf0 (by simp) (by simp)
  have hF0 : ∀ x ∈ F, x < w0.heap.size := fun x hx => Nat.lt_of_lt_of_le (hF x hx) hf0.size
  have H0 := Lib.hid h0
  have HF0 := Lib.hid hf0
  have HFF := Lib.hid hF0
  have HM := Lib.hid hM
  have HC := Lib.hid hc
  have HW := Lib.hid hw0
  have HG := Lib.hid hg
  have HWG := Lib.hid hW
  have HQL := Lib.hid h.plt
  obtain ⟨Q, hQ⟩ : ∃ Q, Q = RdEnd w B q F S c := ⟨_, rfl⟩
  rw [← hQ]
  have HQ := Lib.hid hQ
  have d0 : w0.cell? ⟨g, 0, none⟩ = some (.int .u8 (c.kind : Nat)) := hW.cell 0
  have d1 : w0.cell? ⟨g, 1, none⟩ = some (.string c.key) := hW.cell 1
  have d3 : w0.cell? ⟨g, 3, none⟩ = some (.int .u64 (c.want : Nat)) := hW.cell 3
  have d4 : w0.cell? ⟨g, 4, none⟩ = some (.int .u64 (c.ses : Nat)) := hW.cell 4
  have d5 : w0.cell? ⟨g, 5, none⟩ = some (.int .u64 (c.ticks : Nat)) := hW.cell 5
  have n0 := h0.n0
  rw [show cmdV c a cap = .agg #[.int .u8 (c.kind : Nat), .string c.key, .slice a c.val.length cap, .int .u64 (c.want : Nat), .int .u64 (c.ses : Nat), .int .u64 (c.ticks : Nat)] from rfl]
  rw [show cmdC c a cap = #[.int .u8 (c.kind : Nat), .string c.key, .slice a c.val.length cap, .int .u64 (c.want : Nat), .int .u64 (c.ses : Nat), .int .u64 (c.ticks : Nat)] from rfl] at HW
  have HK := Lib.hid hk
  have hnow : S.now < 18446744073709551616 := by have := hM.now; omega
  rw [hk] at d0 HW ⊢
  rw [show ((7 : Nat) : Int) = 7 from rfl] at d0 HW ⊢
  have KEEP := Lib.hid (fun (z : World) (hz : Frm [] w0 z) => (show Ds z B q F S ∧ (∀ x ∈ F, x < z.heap.size) ∧ Frm [] w z ∧ OthS q w z from ⟨h0.keep hz (by simp) (by simp), fun x hx => Nat.lt_of_lt_of_le (hF0 x hx) hz.size, hf0.trans hz (U := []) (by simp) (by simp), OthS.frm (hf0.trans hz (U := []) (by simp) (by simp)) h.plt⟩))
  clear h hM hc hF hk hW hf0 h0 hF0 hQ hw0 hg
  have GO : Hid (∀ m, Q (.returned (.tuple #[.int .u64 0, .slice none 0 0, .int .i64 0])) (w0.drewN m)) := Lib.hid fun m => by
    have HZ := KEEP.out (w0.drewN m) ((Frm.refl _ _).drewN m)
    rw [HQ.out]
    refine RdEnd.mk (S' := S) (n := 0) (e := 0) ?_ ?_ ?_ ?_ HZ.1 (HZ.2.2.1.weak (by simp)) HZ.2.2.2 rfl
    · unfold doN; rw [if_neg (by have := HK.out; omega), if_neg (by have := HK.out; omega), if_neg (by have := HK.out; omega)]
    · unfold doE; rw [if_neg (by have := HK.out; omega), if_neg (by have := HK.out; omega), if_neg (by have := HK.out; omega), if_neg (by have := HK.out; omega), if_neg (by have := HK.out; omega), if_neg (by have := HK.out; omega), if_pos HK.out]
    · unfold doG; rw [if_neg (by have := HK.out; omega)]
    · unfold doS; rw [if_neg (by have := HK.out; omega), if_neg (by have := HK.out; omega), if_neg (by have := HK.out; omega), if_neg (by have := HK.out; omega), if_neg (by have := HK.out; omega), if_neg (by have := HK.out; omega)]
  go_enter Tryz.func14, Tryz.ntmps14
  go_wp2
  rw [← HW.out, ← HG.out]
  go_quiet (fail)
  go_wp2
  exact GO.out _
end Go.Proofs.YtcbpppdmkhpkkaaGreat
/- Contract of the document's State.Do: Close. (Made by wip/mk-rd.py.) -/
namespace Go.Proofs.YtcbpppdmkhpkkaaGreat
open Go.RowKit
set_option maxRecDepth 100000

set_option maxHeartbeats 8000000 in
/-- Close. -/
theorem rdo_close {w : World} {B q : Nat} {F : List Nat} {S : MS} (c : MC) (a : Option Addr) (cap : Nat) (h : Ds w B q F S) (hM : MOk S) (hc : MCOk c) (hF : ∀ x ∈ F, x < w.heap.size) (hk : c.kind = 5) :
    Calls Tryz.prog 14 #[.pointer (some ⟨q, 0, none⟩), cmdV c a cap] w (RdEnd w B q F S c) := by
  obtain ⟨w0, hw0⟩ : ∃ w0, w0 = w.alloc (.cells (cmdC c a cap) 42) := ⟨_, rfl⟩
  obtain ⟨g, hg⟩ : ∃ g, g = w.heap.size := ⟨_, rfl⟩
  obtain ⟨hW, hf0⟩ := cmd_at hw0 hg
  have hgq : g ≠ q := by have := h.plt; omega
  have h0 : Ds w0 B q F S := h.keep hf0 (by simp) (by simp)
  have hF0 : ∀ x ∈ F, x < w0.heap.size := fun x hx => Nat.lt_of_lt_of_le (hF x hx) hf0.size
  have H0 := Lib.hid h0
  have HF0 := Lib.hid hf0
  have HFF := Lib.hid hF0
  have HM := Lib.hid hM
  have HC := Lib.hid hc
  have HW := Lib.hid hw0
  have HG := Lib.hid hg
  have HWG := Lib.hid hW
  have HQL := Lib.hid h.plt
  obtain ⟨Q, hQ⟩ : ∃ Q, Q = RdEnd w B q F S c := ⟨_, rfl⟩
  rw [← hQ]
  have HQ := Lib.hid hQ
  have d0 : w0.cell? ⟨g, 0, none⟩ = some (.int .u8 (c.kind : Nat)) := hW.cell 0
  have d1 : w0.cell? ⟨g, 1, none⟩ = some (.string c.key) := hW.cell 1
  have d3 : w0.cell? ⟨g, 3, none⟩ = some (.int .u64 (c.want : Nat)) := hW.cell 3
  have d4 : w0.cell? ⟨g, 4, none⟩ = some (.int .u64 (c.ses : Nat)) := hW.cell 4
  have d5 : w0.cell? ⟨g, 5, none⟩ = some (.int .u64 (c.ticks : Nat)) := hW.cell 5
  have n0 := h0.n0
  rw [show cmdV c a cap = .agg #[.int .u8 (c.kind : Nat), .string c.key, .slice a c.val.length cap, .int .u64 (c.want : Nat), .int .u64 (c.ses : Nat), .int .u64 (c.ticks : Nat)] from rfl]
  rw [show cmdC c a cap = #[.int .u8 (c.kind : Nat), .string c.key, .slice a c.val.length cap, .int .u64 (c.want : Nat), .int .u64 (c.ses : Nat), .int .u64 (c.ticks : Nat)] from rfl] at HW
  have HK := Lib.hid hk
  have hnow : S.now < 18446744073709551616 := by have := hM.now; omega
  rw [hk] at d0 HW ⊢
  rw [show ((5 : Nat) : Int) = 5 from rfl] at d0 HW ⊢
  have KEEP := Lib.hid (fun (z : World) (hz : Frm [] w0 z) => (show Ds z B q F S ∧ (∀ x ∈ F, x < z.heap.size) ∧ Frm [] w z ∧ OthS q w z from ⟨h0.keep hz (by simp) (by simp), fun x hx => Nat.lt_of_lt_of_le (hF0 x hx) hz.size, hf0.trans hz (U := []) (by simp) (by simp), OthS.frm (hf0.trans hz (U := []) (by simp) (by simp)) h.plt⟩))
  clear h hM hc hF hk hW hf0 h0 hF0 hQ hw0 hg
  have HCA := Lib.hid (fun (z : World) (hz : Frm [] w0 z) => ds_close c.ses (KEEP.out z hz).1 (KEEP.out z hz).2.1)
  have GO : Hid (∀ z w1 M, Frm [] w0 z → Ds w1 B q F { S with ses := closeL S.ses c.ses, nodes := M } → Frm [q] z w1 → OthS q z w1 → M = (if closeC S.ses c.ses = 0 then keepD c.ses S.nodes else S.nodes) → Q (.returned (.tuple #[.int .u64 0, .slice none 0 0, .int .i64 (closeC S.ses c.ses : Nat)])) w1) := Lib.hid fun z w1 M hz hd hf ho hx => by
    have HZ := KEEP.out z hz
    rw [HQ.out]
    refine RdEnd.mk (S' := { S with ses := closeL S.ses c.ses, nodes := M }) (n := 0) (e := closeC S.ses c.ses) ?_ ?_ ?_ ?_ hd (HZ.2.2.1.trans hf (by simp) (fun x hx => .inl hx)) (HZ.2.2.2.trans ho) rfl
    · unfold doN; rw [if_neg (by have := HK.out; omega), if_neg (by have := HK.out; omega), if_neg (by have := HK.out; omega)]
    · unfold doE; rw [if_neg (by have := HK.out; omega), if_neg (by have := HK.out; omega), if_neg (by have := HK.out; omega), if_neg (by have := HK.out; omega), if_pos HK.out]
    · unfold doG; rw [if_neg (by have := HK.out; omega)]
    · rw [hx]; unfold doS; rw [if_neg (by have := HK.out; omega), if_neg (by have := HK.out; omega), if_neg (by have := HK.out; omega), if_neg (by have := HK.out; omega), if_pos HK.out]
  obtain ⟨en, hen⟩ : ∃ en, en = closeC S.ses c.ses := ⟨_, rfl⟩
  rw [← hen] at GO HCA
  clear hen
  go_enter Tryz.func14, Tryz.ntmps14
  go_wp2
  rw [← HW.out, ← HG.out]
  go_quiet (fail)
  go_wp2
  have s1 : Frm [] w0 (w0.drewN (nq + 1)) := (Frm.refl _ _).drewN _
  go_region_law (first
    | (go_simp; go_at_call 38; (with_reducible refine (HCA.out _ s1).mono ?_); rintro e w2 ⟨rfl, hd2, hf2, ho2⟩))
  all_goals
    have HD2 := Lib.hid hd2
    have HF2 := Lib.hid hf2
    have HO2 := Lib.hid ho2
    have r4 : w2.cell? ⟨g, 4, none⟩ = some (.int .u64 (c.ses : Nat)) := ((s1.whole HWG.out (by simp)) |> fun h => hf2.whole h (by simpa using hgq)).cell 4
    clear hd2 hf2 ho2
    by_cases h00 : en = 0
    · have HGO := Lib.hid (fun w3 hd3 hf3 ho3 => GO.out _ w3 (keepD c.ses S.nodes) s1 hd3 hf3 ho3 (by rw [if_pos h00]))
      have HDR := Lib.hid (fun (m : Nat) => ds_drop c.ses (HD2.out.keep ((Frm.refl [] w2).drewN m) (by simp) (by simp)) (fun x hx => Nat.lt_of_lt_of_le (HFF.out x hx) (Nat.le_trans s1.size HF2.out.size)))
      have HFQ := Lib.hid (fun (m : Nat) => (HF2.out.drewN m))
      have HOQ := Lib.hid (fun (m : Nat) => HO2.out.trans (OthS.frm ((Frm.refl [] w2).drewN m) HD2.out.plt))
      subst h00
      go_wp2
      go_region_law (first
        | (go_simp; go_at_call 39; (refine (HDR.out 1).mono ?_); rintro e w3 ⟨rfl, hd3, hf3, ho3⟩))
      all_goals
        have HE := Lib.hid (HGO.out w3 hd3 ((HFQ.out 1).trans hf3 (fun x hx => hx) (fun x hx => .inl hx)) ((HOQ.out 1).trans ho3))
        clear hd3 hf3 ho3
        go_wp2
        first
          | exact HE.out
          | (go_ret3; exact HE.out)
    · have e1 : ((en : Int) == 0) = false := by rw [beq_eq_false_iff_ne]; omega
      have HE := Lib.hid (GO.out _ w2 S.nodes s1 HD2.out HF2.out HO2.out (by rw [if_neg h00]))
      go_wp2
      first
        | exact HE.out
        | (go_ret3; exact HE.out)
end Go.Proofs.YtcbpppdmkhpkkaaGreat
/- Contract of the document's State.Do: Tick. (Made by wip/mk-rd.py.) -/
namespace Go.Proofs.YtcbpppdmkhpkkaaGreat
open Go.RowKit
set_option maxRecDepth 100000
/-- So many of the sessions' keys have gone. -/
def RtiRel (w : World) (B q : Nat) (F : List Nat) (S : MS) (G : List Nat) (s13 : Value) (wr : World) : Prop :=
  ∃ k, k ≤ G.length ∧ s13 = .int .i64 (k : Nat) ∧ Hid (Ds wr B q F { S with nodes := dropAll (G.take k) S.nodes }) ∧ Hid (Frm [q] w wr) ∧ Hid (OthS q w wr)

set_option maxHeartbeats 8000000 in
/-- Tick. -/
theorem rdo_tick {w : World} {B q : Nat} {F : List Nat} {S : MS} (c : MC) (a : Option Addr) (cap : Nat) (h : Ds w B q F S) (hM : MOk S) (hc : MCOk c) (hF : ∀ x ∈ F, x < w.heap.size) (hk : c.kind = 6) :
    Calls Tryz.prog 14 #[.pointer (some ⟨q, 0, none⟩), cmdV c a cap] w (RdEnd w B q F S c) := by
  obtain ⟨w0, hw0⟩ : ∃ w0, w0 = w.alloc (.cells (cmdC c a cap) 42) := ⟨_, rfl⟩
  obtain ⟨g, hg⟩ : ∃ g, g = w.heap.size := ⟨_, rfl⟩
  obtain ⟨hW, hf0⟩ := cmd_at hw0 hg
  have hgq : g ≠ q := by have := h.plt; omega
  have h0 : Ds w0 B q F S := h.keep hf0 (by simp) (by simp)
  have hF0 : ∀ x ∈ F, x < w0.heap.size := fun x hx => Nat.lt_of_lt_of_le (hF x hx) hf0.size
  have H0 := Lib.hid h0
  have HF0 := Lib.hid hf0
  have HFF := Lib.hid hF0
  have HM := Lib.hid hM
  have HC := Lib.hid hc
  have HW := Lib.hid hw0
  have HG := Lib.hid hg
  have HWG := Lib.hid hW
  have HQL := Lib.hid h.plt
  obtain ⟨Q, hQ⟩ : ∃ Q, Q = RdEnd w B q F S c := ⟨_, rfl⟩
  rw [← hQ]
  have HQ := Lib.hid hQ
  have d0 : w0.cell? ⟨g, 0, none⟩ = some (.int .u8 (c.kind : Nat)) := hW.cell 0
  have d1 : w0.cell? ⟨g, 1, none⟩ = some (.string c.key) := hW.cell 1
  have d3 : w0.cell? ⟨g, 3, none⟩ = some (.int .u64 (c.want : Nat)) := hW.cell 3
  have d4 : w0.cell? ⟨g, 4, none⟩ = some (.int .u64 (c.ses : Nat)) := hW.cell 4
  have d5 : w0.cell? ⟨g, 5, none⟩ = some (.int .u64 (c.ticks : Nat)) := hW.cell 5
  have n0 := h0.n0
  rw [show cmdV c a cap = .agg #[.int .u8 (c.kind : Nat), .string c.key, .slice a c.val.length cap, .int .u64 (c.want : Nat), .int .u64 (c.ses : Nat), .int .u64 (c.ticks : Nat)] from rfl]
  rw [show cmdC c a cap = #[.int .u8 (c.kind : Nat), .string c.key, .slice a c.val.length cap, .int .u64 (c.want : Nat), .int .u64 (c.ses : Nat), .int .u64 (c.ticks : Nat)] from rfl] at HW
  have HK := Lib.hid hk
  have hnow : S.now < 18446744073709551616 := by have := hM.now; omega
  rw [hk] at d0 HW ⊢
  rw [show ((6 : Nat) : Int) = 6 from rfl] at d0 HW ⊢
  have KEEP := Lib.hid (fun (z : World) (hz : Frm [] w0 z) => (show Ds z B q F S ∧ (∀ x ∈ F, x < z.heap.size) ∧ Frm [] w z ∧ OthS q w z from ⟨h0.keep hz (by simp) (by simp), fun x hx => Nat.lt_of_lt_of_le (hF0 x hx) hz.size, hf0.trans hz (U := []) (by simp) (by simp), OthS.frm (hf0.trans hz (U := []) (by simp) (by simp)) h.plt⟩))
  clear h hM hc hF hk hW hf0 h0 hF0 hQ hw0 hg
  obtain ⟨T, hT⟩ : ∃ T, T = tickT S.now c.ticks := ⟨_, rfl⟩
  obtain ⟨r, hr⟩ : ∃ r, r = 1099511627776 - S.now := ⟨_, rfl⟩
  have hnw := HM.out.now
  have a1 : (1099511627776 - (S.now : Int)) % 18446744073709551616 = (r : Int) := by omega
  have a2 : IntKind.u64.wrap (1099511627776 - (S.now : Int)) = (r : Int) := by rw [← a1]; simp [IntKind.wrap, IntKind.bits, IntKind.signed]
  obtain ⟨G, hGG⟩ : ∃ G, G = goneS T S.ses := ⟨_, rfl⟩
  have HGG := Lib.hid hGG
  have HLEN : Hid (G.length ≤ 16) := Lib.hid (by rw [hGG]; unfold goneS; rw [List.length_map]; exact Nat.le_trans (List.length_filter_le _ _) HM.out.right.1)
  have f0 := H0.out.free 0
  have HM0Q := Lib.hid H0.out.plt
  have hTl : T ≤ 1099511627776 := by rw [hT]; unfold tickT; omega
  clear hGG
  by_cases hov : r < c.ticks
  · have hT2 : T = 1099511627776 := by rw [hT]; unfold tickT; omega
    have HT := Lib.hid hT
    have HT2 := Lib.hid hT2
    clear hT hT2 hr a1
    go_enter Tryz.func14, Tryz.ntmps14
    go_wp2
    rw [← HW.out, ← HG.out]
    go_quiet (fail)
    obtain ⟨n1, hn1⟩ : ∃ n1, n1 = nq := ⟨_, rfl⟩
    rw [← hn1]
    clear hn1
    go_wp2
    go_quiet (fail)
    go_wp2
    have hs1 : Frm [] w0 (w0.drewN (n1 + nq)) := (Frm.refl _ _).drewN _
    have hm1 := (KEEP.out _ hs1).1.turnN 1099511627776
    rw [show ((1099511627776 : Nat) : Int) = 1099511627776 from rfl, ← HT2.out] at hm1
    obtain ⟨w1, hw1⟩ : ∃ w1, w1 = (w0.drewN (n1 + nq)).setCell ⟨q, 0, none⟩ (.int .u64 1099511627776) := ⟨_, rfl⟩
    rw [← hw1] at hm1
    clear hov f0 n0 d0 d1 d3 d4 d5
    have HM1 := Lib.hid hm1.1
    have HF1 := Lib.hid (hs1.trans hm1.2.1 (U := [q]) (by simp) (fun x hx => .inl hx))
    have HO1 := Lib.hid ((OthS.frm hs1 HM0Q.out).trans hm1.2.2)
    rw [← hw1]
    have k0 := hm1.1.n0
    simp only at k0
    have HWW := Lib.hid hw1
    clear hm1 hs1 hw1
    have HEX := Lib.hid (fun (m : Nat) => ds_expire T (HM1.out.keep ((Frm.refl [] w1).drewN m) (by simp) (by simp)) (fun x hx => Nat.lt_of_lt_of_le (HFF.out x hx) HF1.out.size))
    rw [← HGG.out] at HEX
    go_wp2
    go_region_law (first
      | (go_simp; go_at_call 40; (refine (HEX.out 1).mono ?_); rintro e w2 ⟨ga, gc, rfl, hga, hgv, hd2, hf2, ho2⟩))
    all_goals
      have HR0 : Hid (RtiRel w2 B q F { S with now := T, ses := leftS T S.ses } G (.int .i64 (0 : Nat)) w2) := Lib.hid ⟨0, Nat.zero_le _, rfl, Lib.hid hd2, Lib.hid (Frm.refl _ _), Lib.hid (OthS.refl _ _)⟩
      have HF2 := Lib.hid (HF1.out.trans (show Frm [q] w1 w2 from hf2.undrew) (U := [q]) (fun x hx => hx) (fun x hx => .inl hx))
      have HO2 := Lib.hid (HO1.out.trans (show OthS q w1 w2 from ho2))
      have HGB : Hid (∀ x, ga = some x → w1.heap.size ≤ x.block) := Lib.hid fun x hx => hga x hx
      have HQ1 : Hid (q < w1.heap.size) := Lib.hid HM1.out.plt
      have HVK : Hid (∀ z, Frm [q] w2 z → ValsAt z ga (uvs G)) := Lib.hid fun z hz => hgv.keep hz (fun hne x hx hm => by
        have h1 := HGB.out x hx
        have h2 := HQ1.out
        simp at hm
        omega)
      have HGV := Lib.hid hga
      clear hd2 hf2 ho2 hga hgv k0
      obtain ⟨gn, hgn⟩ : ∃ gn, gn = G.length := ⟨_, rfl⟩
      have HGN := Lib.hid hgn
      have hgn16 := HLEN.out
      rw [← hgn] at hgn16 ⊢
      clear hgn
      go_wp2
      go_loopw [13] (fun s13 wr => RtiRel w2 B q F { S with now := T, ses := leftS T S.ses } G s13 wr) (fun s13 _ => gn - (intOf s13).toNat)
      case atStart => exact HR0.out
      case round =>
        clear HR0
        obtain ⟨k, hk, rfl, HD, HF, HO⟩ := hrel
        by_cases hlt : k < gn
        · have hkG : k < G.length := by have := HGN.out; omega
          obtain ⟨x, hx⟩ : ∃ x, x = G.getD k 0 := ⟨_, rfl⟩
          have hxu : (uvs G)[k]? = some (.int .u64 (x : Nat)) := by rw [hx]; simp [uvs, hkG]
          have htk : G.take (k + 1) = G.take k ++ [x] := by rw [hx]; exact (List.take_succ_eq_append_getElem hkG).trans (by simp [hkG])
          rcases HVK.out _ HF.out with h0 | ⟨b, off, rfl, hc⟩
          · rw [h0] at hxu; simp at hxu
          have p0 := hc k _ hxu
          have HDR := Lib.hid (fun (m : Nat) => ds_drop x (HD.out.keep ((Frm.refl [] wr).drewN m) (by simp) (by simp)) (fun y hy => Nat.lt_of_lt_of_le (HFF.out y hy) (Nat.le_trans HF2.out.size HF.out.size)))
          have HTK := Lib.hid htk
          clear hxu htk hc hx
          go_wp2
          go_region_law (first
            | (go_simp; go_at_call 39; (refine (HDR.out 1).mono ?_); rintro e w3 ⟨rfl, hd3, hf3, ho3⟩))
          all_goals
            have HREL : Hid (RtiRel w2 B q F { S with now := T, ses := leftS T S.ses } G (.int .i64 ((k + 1 : Nat) : Nat)) w3) := Lib.hid ⟨k + 1, hkG, rfl, Lib.hid (by rw [HTK.out, dropAll_snoc]; exact hd3), Lib.hid (HF.out.trans (show Frm [q] wr w3 from hf3.undrew) (U := [q]) (fun x hx => hx) (fun x hx => .inl hx)), Lib.hid (HO.out.trans (show OthS q wr w3 from ho3))⟩
            clear hd3 hf3 ho3
            go_wp2
            go_roundw
            case rel => exact HREL.out
            case measure => simp [intOf]; omega
        · obtain rfl : k = gn := by have := HGN.out; omega
          have et : G.take k = G := by rw [HGN.out]; exact List.take_length
          rw [et] at HD
          have k0 := HD.out.n0
          simp only at k0
          have HE : Hid (Q (.returned (.tuple #[.int .u64 (T : Nat), .slice ga k gc, .int .i64 0])) wr) := Lib.hid (by
            have eN : doN S c = T := by unfold doN; rw [if_neg (by have := HK.out; omega), if_neg (by have := HK.out; omega), if_pos HK.out]; exact HT.out.symm
            have eG : doG S c = G := by unfold doG; rw [if_pos HK.out, ← HT.out]; exact HGG.out.symm
            have eE : doE S c = 0 := by unfold doE; rw [if_neg (by have := HK.out; omega), if_neg (by have := HK.out; omega), if_neg (by have := HK.out; omega), if_neg (by have := HK.out; omega), if_neg (by have := HK.out; omega), if_pos HK.out]
            have eS : doS S c = { S with now := T, ses := leftS T S.ses, nodes := dropAll G S.nodes } := by unfold doS; rw [if_neg (by have := HK.out; omega), if_neg (by have := HK.out; omega), if_neg (by have := HK.out; omega), if_neg (by have := HK.out; omega), if_neg (by have := HK.out; omega), if_pos HK.out, ← HT.out, ← HGG.out]
            rw [HQ.out]
            unfold RdEnd
            rw [eN, eG, eE, eS, ← HGN.out]
            exact ⟨ga, gc, rfl, HVK.out _ HF.out, fun x hx => Nat.le_trans (Nat.le_trans HF0.out.size HF1.out.size) (HGB.out x hx), HD.out, (HF0.out.trans HF2.out (U := [q]) (by simp) (fun x hx => .inl hx)).trans HF.out (fun x hx => hx) (fun x hx => .inl hx), ((OthS.frm HF0.out HQL.out).trans HO2.out).trans HO.out⟩)
          go_wp2
          exact HE.out

  · have hT2 : T = S.now + c.ticks := by rw [hT]; unfold tickT; omega
    have a5 : ((S.now : Int) + (c.ticks : Int)) % 18446744073709551616 = (T : Int) := by omega
    have a6 : IntKind.u64.wrap ((S.now : Int) + (c.ticks : Int)) = (T : Int) := by rw [← a5]; simp [IntKind.wrap, IntKind.bits, IntKind.signed]
    have HT := Lib.hid hT
    clear hT hT2 hr a1 a5
    go_enter Tryz.func14, Tryz.ntmps14
    go_wp2
    rw [← HW.out, ← HG.out]
    go_quiet (fail)
    obtain ⟨n1, hn1⟩ : ∃ n1, n1 = nq := ⟨_, rfl⟩
    rw [← hn1]
    clear hn1
    go_wp2
    go_quiet (fail)
    obtain ⟨n2, hn2⟩ : ∃ n2, n2 = nq := ⟨_, rfl⟩
    rw [← hn2]
    clear hn2
    go_wp2
    go_region_law (fail)
    all_goals
      have hs1 : Frm [] w0 (w0.drewN (n1 + n2 + 1)) := (Frm.refl _ _).drewN _
      have hm1 := (KEEP.out _ hs1).1.turnN T
      obtain ⟨w1, hw1⟩ : ∃ w1, w1 = (w0.drewN (n1 + n2 + 1)).setCell ⟨q, 0, none⟩ (.int .u64 (T : Nat)) := ⟨_, rfl⟩
      rw [← hw1] at hm1
      clear hov f0 n0 d0 d1 d3 d4 d5 a2 a6
      have HM1 := Lib.hid hm1.1
      have HF1 := Lib.hid (hs1.trans hm1.2.1 (U := [q]) (by simp) (fun x hx => .inl hx))
      have HO1 := Lib.hid ((OthS.frm hs1 HM0Q.out).trans hm1.2.2)
      rw [← hw1]
      have k0 := hm1.1.n0
      simp only at k0
      have HWW := Lib.hid hw1
      clear hm1 hs1 hw1
      have HEX := Lib.hid (fun (m : Nat) => ds_expire T (HM1.out.keep ((Frm.refl [] w1).drewN m) (by simp) (by simp)) (fun x hx => Nat.lt_of_lt_of_le (HFF.out x hx) HF1.out.size))
      rw [← HGG.out] at HEX
      go_wp2
      go_region_law (first
        | (go_simp; go_at_call 40; (refine (HEX.out 1).mono ?_); rintro e w2 ⟨ga, gc, rfl, hga, hgv, hd2, hf2, ho2⟩))
      all_goals
        have HR0 : Hid (RtiRel w2 B q F { S with now := T, ses := leftS T S.ses } G (.int .i64 (0 : Nat)) w2) := Lib.hid ⟨0, Nat.zero_le _, rfl, Lib.hid hd2, Lib.hid (Frm.refl _ _), Lib.hid (OthS.refl _ _)⟩
        have HF2 := Lib.hid (HF1.out.trans (show Frm [q] w1 w2 from hf2.undrew) (U := [q]) (fun x hx => hx) (fun x hx => .inl hx))
        have HO2 := Lib.hid (HO1.out.trans (show OthS q w1 w2 from ho2))
        have HGB : Hid (∀ x, ga = some x → w1.heap.size ≤ x.block) := Lib.hid fun x hx => hga x hx
        have HQ1 : Hid (q < w1.heap.size) := Lib.hid HM1.out.plt
        have HVK : Hid (∀ z, Frm [q] w2 z → ValsAt z ga (uvs G)) := Lib.hid fun z hz => hgv.keep hz (fun hne x hx hm => by
          have h1 := HGB.out x hx
          have h2 := HQ1.out
          simp at hm
          omega)
        have HGV := Lib.hid hga
        clear hd2 hf2 ho2 hga hgv k0
        obtain ⟨gn, hgn⟩ : ∃ gn, gn = G.length := ⟨_, rfl⟩
        have HGN := Lib.hid hgn
        have hgn16 := HLEN.out
        rw [← hgn] at hgn16 ⊢
        clear hgn
        go_wp2
        go_loopw [13] (fun s13 wr => RtiRel w2 B q F { S with now := T, ses := leftS T S.ses } G s13 wr) (fun s13 _ => gn - (intOf s13).toNat)
        case atStart => exact HR0.out
        case round =>
          clear HR0
          obtain ⟨k, hk, rfl, HD, HF, HO⟩ := hrel
          by_cases hlt : k < gn
          · have hkG : k < G.length := by have := HGN.out; omega
            obtain ⟨x, hx⟩ : ∃ x, x = G.getD k 0 := ⟨_, rfl⟩
            have hxu : (uvs G)[k]? = some (.int .u64 (x : Nat)) := by rw [hx]; simp [uvs, hkG]
            have htk : G.take (k + 1) = G.take k ++ [x] := by rw [hx]; exact (List.take_succ_eq_append_getElem hkG).trans (by simp [hkG])
            rcases HVK.out _ HF.out with h0 | ⟨b, off, rfl, hc⟩
            · rw [h0] at hxu; simp at hxu
            have p0 := hc k _ hxu
            have HDR := Lib.hid (fun (m : Nat) => ds_drop x (HD.out.keep ((Frm.refl [] wr).drewN m) (by simp) (by simp)) (fun y hy => Nat.lt_of_lt_of_le (HFF.out y hy) (Nat.le_trans HF2.out.size HF.out.size)))
            have HTK := Lib.hid htk
            clear hxu htk hc hx
            go_wp2
            go_region_law (first
              | (go_simp; go_at_call 39; (refine (HDR.out 1).mono ?_); rintro e w3 ⟨rfl, hd3, hf3, ho3⟩))
            all_goals
              have HREL : Hid (RtiRel w2 B q F { S with now := T, ses := leftS T S.ses } G (.int .i64 ((k + 1 : Nat) : Nat)) w3) := Lib.hid ⟨k + 1, hkG, rfl, Lib.hid (by rw [HTK.out, dropAll_snoc]; exact hd3), Lib.hid (HF.out.trans (show Frm [q] wr w3 from hf3.undrew) (U := [q]) (fun x hx => hx) (fun x hx => .inl hx)), Lib.hid (HO.out.trans (show OthS q wr w3 from ho3))⟩
              clear hd3 hf3 ho3
              go_wp2
              go_roundw
              case rel => exact HREL.out
              case measure => simp [intOf]; omega
          · obtain rfl : k = gn := by have := HGN.out; omega
            have et : G.take k = G := by rw [HGN.out]; exact List.take_length
            rw [et] at HD
            have k0 := HD.out.n0
            simp only at k0
            have HE : Hid (Q (.returned (.tuple #[.int .u64 (T : Nat), .slice ga k gc, .int .i64 0])) wr) := Lib.hid (by
              have eN : doN S c = T := by unfold doN; rw [if_neg (by have := HK.out; omega), if_neg (by have := HK.out; omega), if_pos HK.out]; exact HT.out.symm
              have eG : doG S c = G := by unfold doG; rw [if_pos HK.out, ← HT.out]; exact HGG.out.symm
              have eE : doE S c = 0 := by unfold doE; rw [if_neg (by have := HK.out; omega), if_neg (by have := HK.out; omega), if_neg (by have := HK.out; omega), if_neg (by have := HK.out; omega), if_neg (by have := HK.out; omega), if_pos HK.out]
              have eS : doS S c = { S with now := T, ses := leftS T S.ses, nodes := dropAll G S.nodes } := by unfold doS; rw [if_neg (by have := HK.out; omega), if_neg (by have := HK.out; omega), if_neg (by have := HK.out; omega), if_neg (by have := HK.out; omega), if_neg (by have := HK.out; omega), if_pos HK.out, ← HT.out, ← HGG.out]
              rw [HQ.out]
              unfold RdEnd
              rw [eN, eG, eE, eS, ← HGN.out]
              exact ⟨ga, gc, rfl, HVK.out _ HF.out, fun x hx => Nat.le_trans (Nat.le_trans HF0.out.size HF1.out.size) (HGB.out x hx), HD.out, (HF0.out.trans HF2.out (U := [q]) (by simp) (fun x hx => .inl hx)).trans HF.out (fun x hx => hx) (fun x hx => .inl hx), ((OthS.frm HF0.out HQL.out).trans HO2.out).trans HO.out⟩)
            go_wp2
            exact HE.out

end Go.Proofs.YtcbpppdmkhpkkaaGreat
/- Contract of the document's State.Do: no kind; all kinds. (Made by wip/mk-rd.py.) -/
namespace Go.Proofs.YtcbpppdmkhpkkaaGreat
open Go.RowKit
set_option maxRecDepth 100000

set_option maxHeartbeats 8000000 in
/-- No kind. -/
theorem rdo_none {w : World} {B q : Nat} {F : List Nat} {S : MS} (c : MC) (a : Option Addr) (cap : Nat) (h : Ds w B q F S) (hM : MOk S) (hc : MCOk c) (hF : ∀ x ∈ F, x < w.heap.size) (hk : c.kind = 0 ∨ 7 < c.kind) :
    Calls Tryz.prog 14 #[.pointer (some ⟨q, 0, none⟩), cmdV c a cap] w (RdEnd w B q F S c) := by
  obtain ⟨w0, hw0⟩ : ∃ w0, w0 = w.alloc (.cells (cmdC c a cap) 42) := ⟨_, rfl⟩
  obtain ⟨g, hg⟩ : ∃ g, g = w.heap.size := ⟨_, rfl⟩
  obtain ⟨hW, hf0⟩ := cmd_at hw0 hg
  have hgq : g ≠ q := by have := h.plt; omega
  have h0 : Ds w0 B q F S := h.keep hf0 (by simp) (by simp)
  have hF0 : ∀ x ∈ F, x < w0.heap.size := fun x hx => Nat.lt_of_lt_of_le (hF x hx) hf0.size
  have H0 := Lib.hid h0
  have HF0 := Lib.hid hf0
  have HFF := Lib.hid hF0
  have HM := Lib.hid hM
  have HC := Lib.hid hc
  have HW := Lib.hid hw0
  have HG := Lib.hid hg
  have HWG := Lib.hid hW
  have HQL := Lib.hid h.plt
  obtain ⟨Q, hQ⟩ : ∃ Q, Q = RdEnd w B q F S c := ⟨_, rfl⟩
  rw [← hQ]
  have HQ := Lib.hid hQ
  have d0 : w0.cell? ⟨g, 0, none⟩ = some (.int .u8 (c.kind : Nat)) := hW.cell 0
  have d1 : w0.cell? ⟨g, 1, none⟩ = some (.string c.key) := hW.cell 1
  have d3 : w0.cell? ⟨g, 3, none⟩ = some (.int .u64 (c.want : Nat)) := hW.cell 3
  have d4 : w0.cell? ⟨g, 4, none⟩ = some (.int .u64 (c.ses : Nat)) := hW.cell 4
  have d5 : w0.cell? ⟨g, 5, none⟩ = some (.int .u64 (c.ticks : Nat)) := hW.cell 5
  have n0 := h0.n0
  rw [show cmdV c a cap = .agg #[.int .u8 (c.kind : Nat), .string c.key, .slice a c.val.length cap, .int .u64 (c.want : Nat), .int .u64 (c.ses : Nat), .int .u64 (c.ticks : Nat)] from rfl]
  rw [show cmdC c a cap = #[.int .u8 (c.kind : Nat), .string c.key, .slice a c.val.length cap, .int .u64 (c.want : Nat), .int .u64 (c.ses : Nat), .int .u64 (c.ticks : Nat)] from rfl] at HW
  have HK := Lib.hid hk
  have hnow : S.now < 18446744073709551616 := by have := hM.now; omega
  have KEEP := Lib.hid (fun (z : World) (hz : Frm [] w0 z) => (show Ds z B q F S ∧ (∀ x ∈ F, x < z.heap.size) ∧ Frm [] w z ∧ OthS q w z from ⟨h0.keep hz (by simp) (by simp), fun x hx => Nat.lt_of_lt_of_le (hF0 x hx) hz.size, hf0.trans hz (U := []) (by simp) (by simp), OthS.frm (hf0.trans hz (U := []) (by simp) (by simp)) h.plt⟩))
  clear h hM hc hF hk hW hf0 h0 hF0 hQ hw0 hg
  have b1 : ((c.kind : Int) == 1) = false := by rw [beq_eq_false_iff_ne]; have := HK.out; omega
  have b2 : ((c.kind : Int) == 2) = false := by rw [beq_eq_false_iff_ne]; have := HK.out; omega
  have b3 : ((c.kind : Int) == 3) = false := by rw [beq_eq_false_iff_ne]; have := HK.out; omega
  have b4 : ((c.kind : Int) == 4) = false := by rw [beq_eq_false_iff_ne]; have := HK.out; omega
  have b5 : ((c.kind : Int) == 5) = false := by rw [beq_eq_false_iff_ne]; have := HK.out; omega
  have b6 : ((c.kind : Int) == 6) = false := by rw [beq_eq_false_iff_ne]; have := HK.out; omega
  have b7 : ((c.kind : Int) == 7) = false := by rw [beq_eq_false_iff_ne]; have := HK.out; omega
  have GO : Hid (∀ m, Q (.returned (.tuple #[.int .u64 0, .slice none 0 0, .int .i64 16])) (w0.drewN m)) := Lib.hid fun m => by
    have HZ := KEEP.out (w0.drewN m) ((Frm.refl _ _).drewN m)
    rw [HQ.out]
    refine RdEnd.mk (S' := S) (n := 0) (e := 16) ?_ ?_ ?_ ?_ HZ.1 (HZ.2.2.1.weak (by simp)) HZ.2.2.2 rfl
    · unfold doN; rw [if_neg (by have := HK.out; omega), if_neg (by have := HK.out; omega), if_neg (by have := HK.out; omega)]
    · unfold doE; rw [if_neg (by have := HK.out; omega), if_neg (by have := HK.out; omega), if_neg (by have := HK.out; omega), if_neg (by have := HK.out; omega), if_neg (by have := HK.out; omega), if_neg (by have := HK.out; omega), if_neg (by have := HK.out; omega)]
    · unfold doG; rw [if_neg (by have := HK.out; omega)]
    · unfold doS; rw [if_neg (by have := HK.out; omega), if_neg (by have := HK.out; omega), if_neg (by have := HK.out; omega), if_neg (by have := HK.out; omega), if_neg (by have := HK.out; omega), if_neg (by have := HK.out; omega)]
  go_enter Tryz.func14, Tryz.ntmps14
  go_wp2
  rw [← HW.out, ← HG.out]
  go_quiet (fail)
  go_wp2
  exact GO.out _

/-- The document's State does what the words say. -/
theorem rdo_any {w : World} {B q : Nat} {F : List Nat} {S : MS} (c : MC) (a : Option Addr) (cap : Nat) (h : Ds w B q F S) (hM : MOk S) (hc : MCOk c) (hF : ∀ x ∈ F, x < w.heap.size) (hb : Bytes w a c.val) (hnil : a = none → cap = 0) :
    Calls Tryz.prog 14 #[.pointer (some ⟨q, 0, none⟩), cmdV c a cap] w (RdEnd w B q F S c) := by
  by_cases k1 : c.kind = 1
  · exact rdo_put c a cap h hM hc hF hb hnil k1
  by_cases k2 : c.kind = 2
  · exact rdo_del c a cap h hM hc hF k2
  by_cases k3 : c.kind = 3
  · exact rdo_open c a cap h hM hc hF k3
  by_cases k4 : c.kind = 4
  · exact rdo_renew c a cap h hM hc hF k4
  by_cases k5 : c.kind = 5
  · exact rdo_close c a cap h hM hc hF k5
  by_cases k6 : c.kind = 6
  · exact rdo_tick c a cap h hM hc hF k6
  by_cases k7 : c.kind = 7
  · exact rdo_snap c a cap h hM hc hF k7
  exact rdo_none c a cap h hM hc hF (by omega)
end Go.Proofs.YtcbpppdmkhpkkaaGreat
