/- (For PackReads' own seat.) PackReads: for every input the law answers true and writes nothing that was there, where the two tables of unicode/utf8 hold what they hold. -/
import Derived.Test.YtpamiglinmfgkaaDoorPdClos
namespace Go.Proofs.YtpamiglinmfgkaaDoor
open Go.RowKit

theorem exV : ∃ V, VOk V := by
  classical
  refine ⟨fun l => if Val (false, l) true then true else false, fun l b h => ?_⟩
  by_cases ht : Val (false, l) true
  · simp only [if_pos ht]; exact Val.one ht h
  · simp only [if_neg ht]
    cases b with
    | false => rfl
    | true => exact absurd h ht
theorem enters_reads (args : Array Value) (w : World) : (callFunc 6 args).run Tryd.prog w = .ok (.enter 6 args) w := by kernel_rfl
theorem Tabs.two {w : World} (h : Tabs w) : 2 ≤ w.heap.size := by have := block_lt_of_cell (h.2 0 (by decide)).1; simp at this; omega
def TrueOf (w : World) (e : Ending) (w' : World) : Prop := e = .returned (.bool true) ∧ Below w.heap.size w w'
theorem trueOf {w w' : World} (h : Frm [] w w') : TrueOf w (.returned (.bool true)) w' := ⟨rfl, h.below (by simp) (Nat.le_refl _)⟩

/-- The boxes at the beginning. -/
structure Box (w wx : World) (gk gf gd : Nat) (ka : Option Addr) (nk kc : Nat) (fail : Int) (code : Nat) : Prop where
  frm : Frm [] w wx
  kd : Whole wx gk 22 #[.slice ka nk kc]
  fl : Whole wx gf 3 #[.int .i64 fail]
  cd : Whole wx gd 5 #[.int .u8 code]
theorem Box.keep {w wx wy : World} {gk gf gd : Nat} {ka : Option Addr} {nk kc : Nat} {fail : Int} {code : Nat} (h : Box w wx gk gf gd ka nk kc fail code) (hf : Frm [] wx wy) : Box w wy gk gf gd ka nk kc fail code :=
  ⟨frm_tr h.frm hf, hf.whole h.kd (by simp), hf.whole h.fl (by simp), hf.whole h.cd (by simp)⟩
theorem box_mk (w : World) (ka : Option Addr) (nk kc : Nat) (fail : Int) (code : Nat) :
    Box w (((w.alloc (.cells #[.slice ka nk kc] 22)).alloc (.cells #[.int .i64 fail] 3)).alloc (.cells #[.int .u8 code] 5)) w.heap.size (w.heap.size + 1) (w.heap.size + 1 + 1) ka nk kc fail code := by
  refine ⟨(((Frm.refl _ _).alloc _).alloc _).alloc _, ((Whole.made w _ _).alloc _).alloc _, ?_, ?_⟩
  · have := (Whole.made (w.alloc (.cells #[.slice ka nk kc] 22)) 3 #[.int .i64 fail]).alloc (.cells #[.int .u8 code] 5)
    simpa using this
  · have := Whole.made ((w.alloc (.cells #[.slice ka nk kc] 22)).alloc (.cells #[.int .i64 fail] 3)) 5 #[.int .u8 code]
    simpa using this

theorem box2_mk (w : World) (v : Value) :
    Frm [] w ((((w.alloc (.cells #[.bool true] 4)).alloc (.cells #[.int .i64 0] 3)).alloc (.cells #[v, .int .i64 0] 26)).alloc (.cells #[.pointer (some ⟨w.heap.size + 1 + 1, 0, none⟩)] 24)) ∧
    Whole ((((w.alloc (.cells #[.bool true] 4)).alloc (.cells #[.int .i64 0] 3)).alloc (.cells #[v, .int .i64 0] 26)).alloc (.cells #[.pointer (some ⟨w.heap.size + 1 + 1, 0, none⟩)] 24)) w.heap.size 4 #[.bool true] ∧
    Whole ((((w.alloc (.cells #[.bool true] 4)).alloc (.cells #[.int .i64 0] 3)).alloc (.cells #[v, .int .i64 0] 26)).alloc (.cells #[.pointer (some ⟨w.heap.size + 1 + 1, 0, none⟩)] 24)) (w.heap.size + 1) 3 #[.int .i64 0] ∧
    Whole ((((w.alloc (.cells #[.bool true] 4)).alloc (.cells #[.int .i64 0] 3)).alloc (.cells #[v, .int .i64 0] 26)).alloc (.cells #[.pointer (some ⟨w.heap.size + 1 + 1, 0, none⟩)] 24)) (w.heap.size + 1 + 1) 26 #[v, .int .i64 0] ∧
    Whole ((((w.alloc (.cells #[.bool true] 4)).alloc (.cells #[.int .i64 0] 3)).alloc (.cells #[v, .int .i64 0] 26)).alloc (.cells #[.pointer (some ⟨w.heap.size + 1 + 1, 0, none⟩)] 24)) (w.heap.size + 1 + 1 + 1) 24 #[.pointer (some ⟨w.heap.size + 1 + 1, 0, none⟩)] := by
  refine ⟨((((Frm.refl _ _).alloc _).alloc _).alloc _).alloc _, (((Whole.made w _ _).alloc _).alloc _).alloc _, ?_, ?_, ?_⟩
  · have := ((Whole.made (w.alloc (.cells #[.bool true] 4)) 3 #[.int .i64 0]).alloc (.cells #[v, .int .i64 0] 26)).alloc (.cells #[.pointer (some ⟨w.heap.size + 1 + 1, 0, none⟩)] 24)
    simpa using this
  · have := (Whole.made ((w.alloc (.cells #[.bool true] 4)).alloc (.cells #[.int .i64 0] 3)) 26 #[v, .int .i64 0]).alloc (.cells #[.pointer (some ⟨w.heap.size + 1 + 1, 0, none⟩)] 24)
    simpa using this
  · have := Whole.made (((w.alloc (.cells #[.bool true] 4)).alloc (.cells #[.int .i64 0] 3)).alloc (.cells #[v, .int .i64 0] 26)) 24 #[.pointer (some ⟨w.heap.size + 1 + 1, 0, none⟩)]
    simpa using this

set_option maxRecDepth 100000 in
set_option maxHeartbeats 4000000 in
theorem packReads_big (ab : Option Addr) (nb cb : Nat) (ka : Option Addr) (nk kc : Nat) (fail : Int) (code : Nat) (w : World) (hbig : 3000 < nb ∨ 60 < nk) :
    Calls Tryd.prog 3 #[.slice ab nb cb, .slice ka nk kc, .int .i64 fail, .int .u8 code] w (TrueOf w) := by
  have BX := Lib.hid (box_mk w ka nk kc fail code)
  obtain ⟨W0, hW0⟩ : ∃ W0, W0 = ((w.alloc (.cells #[.slice ka nk kc] 22)).alloc (.cells #[.int .i64 fail] 3)).alloc (.cells #[.int .u8 code] 5) := ⟨_, rfl⟩
  rw [← hW0] at BX
  have HW0 := Lib.hid hW0
  clear hW0
  by_cases h3 : 3000 < nb
  · have h3z : (3000 : Int) < (nb : Int) := by omega
    clear hbig h3
    go_enter Tryd.func3, Tryd.ntmps3
    go_wp2_with fail
    rw [← HW0.out]
    refine (awake2_any W0).mono ?_
    rintro e w1 ⟨rfl, hb⟩
    have FIN : Hid (Frm [] w w1) := frm_tr BX.out.frm (Frm.ofBelow hb)
    clear hb
    go_wp2
    go_ret
    exact trueOf FIN.out
  · have h3z : ¬ (3000 : Int) < (nb : Int) := by omega
    have h6z : (60 : Int) < (nk : Int) := by omega
    clear hbig h3
    go_enter Tryd.func3, Tryd.ntmps3
    go_wp2_with fail
    rw [← HW0.out]
    refine (awake2_any W0).mono ?_
    rintro e w1 ⟨rfl, hb⟩
    have B1 := Lib.hid (BX.out.keep (Frm.ofBelow hb))
    have dk := B1.out.kd.cell 0
    simp at dk
    clear hb
    go_wp2
    go_ret
    exact trueOf B1.out.frm

set_option maxRecDepth 100000 in
set_option maxHeartbeats 8000000 in
theorem packReads_main (ab : Option Addr) (nb cb : Nat) (bl : List Nat) (ka : Option Addr) (nk kc : Nat) (ks : List Nat) (fail : Int) (code : Nat) (w : World)
    (hb : Bytes w ab bl) (hnb : nb = bl.length) (hcb : nb ≤ cb) (hnil : ab = none → cb = 0) (hks : Bytes w ka ks) (hnk : nk = ks.length) (hcode : code < 256) (hT : Tabs w) (h3 : nb ≤ 3000) (h6 : nk ≤ 60) :
    Calls Tryd.prog 3 #[.slice ab nb cb, .slice ka nk kc, .int .i64 fail, .int .u8 code] w (TrueOf w) := by
  obtain ⟨V, hV⟩ := exV
  obtain ⟨R, hR⟩ : ∃ R, R = run V fail code 0 ks bl := ⟨_, rfl⟩
  obtain ⟨i0, hi0, hz0, hz1, hz2⟩ := info_parts Tryd.info5
  have HI := Lib.hid hi0
  have HZ0 := Lib.hid hz0
  have HZ1 := Lib.hid hz1
  have HZ2 := Lib.hid hz2
  have BX := Lib.hid (box_mk w ka nk kc fail code)
  obtain ⟨W0, hW0⟩ : ∃ W0, W0 = ((w.alloc (.cells #[.slice ka nk kc] 22)).alloc (.cells #[.int .i64 fail] 3)).alloc (.cells #[.int .u8 code] 5) := ⟨_, rfl⟩
  rw [← hW0] at BX
  obtain ⟨gk, hgk⟩ : ∃ g, g = w.heap.size := ⟨_, rfl⟩
  obtain ⟨gf, hgf⟩ : ∃ g, g = w.heap.size + 1 := ⟨_, rfl⟩
  obtain ⟨gd, hgd⟩ : ∃ g, g = w.heap.size + 1 + 1 := ⟨_, rfl⟩
  rw [← hgd, ← hgf, ← hgk] at BX
  have HW0 := Lib.hid hW0
  have HGK := Lib.hid hgk
  have HGF := Lib.hid hgf
  have HGD := Lib.hid hgd
  have HB := Lib.hid hb
  have HNB := Lib.hid hnb
  have HCB := Lib.hid hcb
  have HNIL := Lib.hid hnil
  have HKS := Lib.hid hks
  have HNK := Lib.hid hnk
  have HT := Lib.hid hT
  have HR := Lib.hid hR
  have HCO := Lib.hid hcode
  have H6 := Lib.hid h6
  have h3z : ¬ (3000 : Int) < (nb : Int) := by omega
  have h6z : ¬ (60 : Int) < (nk : Int) := by omega
  have H3 := Lib.hid h3
  clear hi0 hz0 hz1 hz2 hW0 hgk hgf hgd hb hnb hcb hnil hks hnk hT hR hcode h6 h3
  have hmf : ∀ (fn : Fn) (first cap : Array Value) (w : World), (Instr.makeFunc fn first cap).run Tryd.prog w = .ok (.func fn first cap) w := fun _ _ _ _ => rfl
  go_enter Tryd.func3, Tryd.ntmps3
  go_wp2_with fail
  rw [← HW0.out, ← HGD.out, ← HGF.out, ← HGK.out]
  refine (awake2_any W0).mono ?_
  rintro e w1 ⟨rfl, hb⟩
  have B1 := Lib.hid (BX.out.keep (Frm.ofBelow hb))
  have dk := B1.out.kd.cell 0
  simp at dk
  clear hb BX
  have BB := box2_mk w1 (.slice ab nb cb)
  have F4 := Lib.hid BB.1
  have WR := Lib.hid BB.2.1
  have WC := Lib.hid BB.2.2.1
  have WQ := Lib.hid BB.2.2.2.1
  have WW := Lib.hid BB.2.2.2.2
  obtain ⟨W4, hW4⟩ : ∃ W4, W4 = (((w1.alloc (.cells #[.bool true] 4)).alloc (.cells #[.int .i64 0] 3)).alloc (.cells #[.slice ab nb cb, .int .i64 0] 26)).alloc (.cells #[.pointer (some ⟨w1.heap.size + 1 + 1, 0, none⟩)] 24) := ⟨_, rfl⟩
  rw [← hW4] at F4 WR WC WQ WW
  have HS4 : Hid (W4.heap.size = w1.heap.size + 1 + 1 + 1 + 1) := by show W4.heap.size = _; rw [hW4]; simp
  have OWN : Hid ((W4.alloc (.cells #[] 5)).ownsRow (w1.heap.size + 1 + 1 + 1 + 1) 5 1 (.slice (some ⟨w1.heap.size + 1 + 1 + 1 + 1, 0, none⟩) 0 0) 0 []) := by
    have h := World.ownsRow_lit (base := W4.heap.size) (size := 1) (e := 5) W4 #[] 0 (Nat.le_refl _) (by unfold maxLen; omega) rfl
    rw [HS4.out] at h
    exact h
  have HW4 := Lib.hid hW4
  have FB : Hid (Frm [] w W4) := frm_tr B1.out.frm F4.out
  clear BB hW4
  go_wp2_with (at_builtin; rw [← HW4.out]; refine wpList_app rfl (.tmp 26) (.tmp 27) 22 rfl (w1.heap.size + 1 + 1 + 1 + 1) 5 i0 Tryd.underlying22 HI.out HZ0.out HZ1.out HZ2.out (.slice (some ⟨w1.heap.size + 1 + 1 + 1 + 1, 0, none⟩) 0 0) 0 [] rfl OWN.out _ _ _ bl rfl ?b1 HNB.out HNIL.out ?fit1 ?base1 ?_)
  case b1 => exact ((Frm.refl [] W4).alloc _).bytes (FB.out.bytes HB.out (by simp)) (by simp)
  case fit1 => have := H3.out; omega
  case base1 => rw [← HS4.out]; simp
  intro ay cy w6 happ
  have F6 : Hid (Frm [] W4 w6) := ((Frm.refl [] W4).alloc _).grown happ.grown (fun k hk => .inr (by rw [HS4.out]; exact (OWN.out.lt k hk).1))
  have HBY := Lib.hid (bytes_of_own (n := 0 + nb) (l := bl) (by have h := happ.own; rw [List.nil_append] at h; exact h) HB.out.1)
  rw [Nat.zero_add] at HBY
  clear happ OWN HI HZ0 HZ1 HZ2
  obtain ⟨gr, hgr⟩ : ∃ g, g = w1.heap.size := ⟨_, rfl⟩
  obtain ⟨gc, hgc⟩ : ∃ g, g = w1.heap.size + 1 := ⟨_, rfl⟩
  obtain ⟨qb, hqb⟩ : ∃ g, g = w1.heap.size + 1 + 1 := ⟨_, rfl⟩
  obtain ⟨gw, hgw⟩ : ∃ g, g = w1.heap.size + 1 + 1 + 1 := ⟨_, rfl⟩
  have HG : Hid (gr = w1.heap.size ∧ gc = w1.heap.size + 1 ∧ qb = w1.heap.size + 1 + 1 ∧ gw = w1.heap.size + 1 + 1 + 1) := ⟨hgr, hgc, hqb, hgw⟩
  rw [← hgw, ← hqb] at WW
  rw [← hqb] at WQ
  rw [← hgc] at WC
  rw [← hgr] at WR
  rw [← hgw, ← hqb, ← hgc, ← hgr]
  have FB6 : Hid (Frm [] w w6) := frm_tr FB.out F6.out
  have B6 := Lib.hid ((B1.out.keep F4.out).keep F6.out)
  have WR6 : Hid (Whole w6 gr 4 #[.bool true]) := F6.out.whole WR.out (by simp)
  have WC6 : Hid (Whole w6 gc 3 #[.int .i64 0]) := F6.out.whole WC.out (by simp)
  have WQ6 : Hid (Whole w6 qb 26 #[.slice ab nb cb, .int .i64 0]) := F6.out.whole WQ.out (by simp)
  have WW6 : Hid (Whole w6 gw 24 #[.pointer (some ⟨qb, 0, none⟩)]) := F6.out.whole WW.out (by simp)
  have HO : Hid (w.heap.size ≤ gk ∧ gk < gf ∧ gf < gd ∧ gd < gr ∧ gr < gc ∧ gc < qb ∧ qb < gw ∧ gw < w6.heap.size) := by
    obtain ⟨g1, g2, g3, g4⟩ := HG.out
    have h1 := HGK.out; have h2 := HGF.out; have h3 := HGD.out
    have h4 := B1.out.cd.lt
    have h5 := HS4.out
    have h6 := F6.out.size
    refine ⟨?_, ?_, ?_, ?_, ?_, ?_, ?_, ?_⟩ <;> omega
  have RQ6 : Hid (RQ w6 qb bl w.heap.size) := by
    have hb6 := FB6.out.bytes HB.out (by simp)
    refine ⟨ab, cb, ⟨by have h := WQ6.out; rw [HNB.out] at h; exact h, hb6, by rw [← HNB.out]; exact HCB.out, HNIL.out, fun hne x hx => ?_⟩, fun hne x hx => bytes_lt HB.out hne x hx⟩
    have := bytes_lt HB.out hne x hx
    have := HO.out
    omega
  clear WR WC WQ WW F4 FB hgr hgc hqb hgw HG HS4 HW4 B1 HW0 HGK HGF HGD F6
  have BY : Hid (∀ wx rb cp db, Told w6 wx rb cp db bl → Calls Tryd.prog 6 (#[.pointer (some ⟨rb, 0, none⟩)] ++ #[.pointer (some ⟨gc, 0, none⟩), .pointer (some ⟨gk, 0, none⟩), .pointer (some ⟨gf, 0, none⟩), .pointer (some ⟨gw, 0, none⟩), .pointer (some ⟨gd, 0, none⟩), .pointer (some ⟨gr, 0, none⟩)]) wx (CPost w wx rb cp db gk gf gd gr gc qb gw ka nk kc fail code R)) := fun wx rb cp db hT => by
    obtain ⟨o1, o2, o3, o4, o5, o6, o7, o8⟩ := HO.out
    have h1 := hT.hr; have h2 := hT.hc; have h3 := hT.hd
    have fc : Frm [gc] wx (wx.setCell ⟨gc, 0, none⟩ (.int .i64 1)) := (Frm.refl _ _).setCell (.inl (by simp)) _
    have f1 := hT.frm
    have hq : RQ (wx.setCell ⟨gc, 0, none⟩ (.int .i64 1)) qb bl w.heap.size := (RQ6.out.keep f1 (by simp) (by simp)).keep fc (by simp; omega) (fun x hx => by simp at hx; omega)
    have htb : Tabs (wx.setCell ⟨gc, 0, none⟩ (.int .i64 1)) := (HT.out.keep (frm_tr FB6.out f1) (by simp)).keep fc (fun x hx => by simp at hx; have := HT.out.two; omega)
    exact reads_by hV w wx w6.heap.size rb cp db gk gf gd gr gc qb gw ka nk kc fail code ks bl R HKS.out HNK.out H6.out HCO.out (by rw [← HNB.out]; have := H3.out; omega) HR.out.symm ⟨o1, o2, o3, o4, o5, o6, o7, o8, h1, h2, h3⟩
      (f1.whole WC6.out (by simp))
      ⟨(frm_tr FB6.out f1).fresh (fun x hx => by simp at hx; omega) fc, (Frm.refl _ _).setCell (.inl (by simp)) _,
        ⟨hT.rdr.keep fc (by simp; omega) (by simp; omega) (by simp; omega), hq, htb, HT.out.two, by omega, by omega, by omega, by omega, Nat.lt_of_lt_of_le hT.dlt fc.size, by omega, by omega, by omega⟩,
        fc.whole (f1.whole WR6.out (by simp)) (by simp; omega), (f1.whole WC6.out (by simp)).put 0 (.int .i64 1), fc.whole (f1.whole B6.out.kd (by simp)) (by simp; omega), fc.whole (f1.whole B6.out.fl (by simp)) (by simp; omega), fc.whole (f1.whole WW6.out (by simp)) (by simp; omega), fc.whole (f1.whole B6.out.cd (by simp)) (by simp; omega)⟩
  clear RQ6 B6 WC6 WQ6 HKS HNK HCO H6 HT HCB HNIL HB
  go_wp2_with fail
  clear dk hmf
  cases R with
  | inl rest =>
    refine (read_ret 6 #[.pointer (some ⟨gc, 0, none⟩), .pointer (some ⟨gk, 0, none⟩), .pointer (some ⟨gf, 0, none⟩), .pointer (some ⟨gw, 0, none⟩), .pointer (some ⟨gd, 0, none⟩), .pointer (some ⟨gr, 0, none⟩)] ay nb cy bl w6
      (fun w2 rest' => rest' = rest ∧ Frm [] w w2 ∧ RQ w2 qb rest w.heap.size ∧ Whole w2 gr 4 #[.bool true] ∧ Whole w2 gc 3 #[.int .i64 1] ∧ Whole w2 gw 24 #[.pointer (some ⟨qb, 0, none⟩)]) HBY.out.2.1 HBY.out.1 HBY.out.2.2 (by have := H3.out; omega) enters_reads
      (fun wx rb cp db hT => (BY.out wx rb cp db hT).mono fun e w2 h => ⟨h.1, rest, [rb, qb, gr, gc], ⟨rfl, h.2.frm0, h.2.two.rq, h.2.rt, h.2.ca, h.2.wt⟩, h.2.two.rdr, h.2.frm, fun x hx => by have := HO.out; simp at hx; omega⟩)).mono ?_
    rintro e w7 ⟨w8, c, T, rfl, ⟨rest', ⟨rfl, hf8, hq8, hr8, hc8, hw8⟩, hc⟩, hfT, hT⟩
    have nT : ∀ g, g < w6.heap.size → g ∉ T := fun g hg hm => by have := hT g hm; omega
    have F7 : Hid (Frm [] w w7) := hf8.fresh (fun x hx => Nat.le_trans FB6.out.size (hT x hx)) hfT
    have Q7 : Hid (RQ w7 qb rest' w.heap.size) := hq8.keep hfT (nT _ (by have := HO.out; omega)) (fun x hx => Nat.le_trans FB6.out.size (hT x hx))
    have d1 := (hfT.whole hr8 (nT _ (by have := HO.out; omega))).cell 0
    have d2 := (hfT.whole hc8 (nT _ (by have := HO.out; omega))).cell 0
    have d3 := (hfT.whole hw8 (nT _ (by have := HO.out; omega))).cell 0
    simp at d1 d2 d3
    have HC := Lib.hid hc
    have QB : Hid (w.heap.size ≤ qb) := by have h := HO.out; show _ ≤ qb; omega
    clear hf8 hq8 hr8 hc8 hw8 hc hfT hT nT BY
    go_wp2_with fail
    refine (rq_end_ok Q7.out c HC.out).mono ?_
    rintro e w9 ⟨rfl, hf9⟩
    have F9 : Hid (Frm [] w w9) := F7.out.fresh (fun x hx => by simp at hx; rw [hx]; exact QB.out) hf9
    clear hf9
    go_wp2
    go_ret
    exact trueOf F9.out
  | inr c =>
    have hne := run_ne HR.out.symm
    refine (read_throw 6 #[.pointer (some ⟨gc, 0, none⟩), .pointer (some ⟨gk, 0, none⟩), .pointer (some ⟨gf, 0, none⟩), .pointer (some ⟨gw, 0, none⟩), .pointer (some ⟨gd, 0, none⟩), .pointer (some ⟨gr, 0, none⟩)] ay nb cy bl w6
      (fun w2 => Frm [] w w2 ∧ RFault w2 qb c ∧ Whole w2 gr 4 #[.bool true] ∧ Whole w2 gc 3 #[.int .i64 1] ∧ Whole w2 gw 24 #[.pointer (some ⟨qb, 0, none⟩)]) c HBY.out.2.1 HBY.out.1 HBY.out.2.2 (by have := H3.out; omega) enters_reads
      (fun wx rb cp db hT => (BY.out wx rb cp db hT).mono fun e w2 h => ⟨h.he, [rb, cp, qb, gr, gc], ⟨h.frm0, h.rf, h.rt, h.ca, h.wt⟩, h.call, h.frm, fun x hx => by have := HO.out; simp at hx; omega⟩)).mono ?_
    rintro e w7 ⟨w8, c', T, rfl, ⟨⟨hf8, hq8, hr8, hc8, hw8⟩, rfl⟩, hfT, hT⟩
    have nT : ∀ g, g < w6.heap.size → g ∉ T := fun g hg hm => by have := hT g hm; omega
    have F7 : Hid (Frm [] w w7) := hf8.fresh (fun x hx => Nat.le_trans FB6.out.size (hT x hx)) hfT
    have Q7 : Hid (RFault w7 qb c) := hq8.keep hfT (nT _ (by have := HO.out; omega))
    have d1 := (hfT.whole hr8 (nT _ (by have := HO.out; omega))).cell 0
    have d2 := (hfT.whole hc8 (nT _ (by have := HO.out; omega))).cell 0
    have d3 := (hfT.whole hw8 (nT _ (by have := HO.out; omega))).cell 0
    simp at d1 d2 d3
    clear hf8 hq8 hr8 hc8 hw8 hfT hT nT BY
    go_wp2_with fail
    refine (rq_end_fault c Q7.out hne).mono ?_
    rintro e w9 ⟨rfl, rfl⟩
    go_wp2
    go_ret
    exact trueOf F7.out

theorem packReads_walk (ab : Option Addr) (nb cb : Nat) (bl : List Nat) (ka : Option Addr) (nk kc : Nat) (ks : List Nat) (fail : Int) (code : Nat) (w : World)
    (hb : Bytes w ab bl) (hnb : nb = bl.length) (hcb : nb ≤ cb) (hnil : ab = none → cb = 0) (hks : Bytes w ka ks) (hnk : nk = ks.length) (hcode : code < 256) (hT : Tabs w) :
    Calls Tryd.prog 3 #[.slice ab nb cb, .slice ka nk kc, .int .i64 fail, .int .u8 code] w (TrueOf w) := by
  by_cases h : 3000 < nb ∨ 60 < nk
  · exact packReads_big ab nb cb ka nk kc fail code w h
  · exact packReads_main ab nb cb bl ka nk kc ks fail code w hb hnb hcb hnil hks hnk hcode hT (by omega) (by omega)
end Go.Proofs.YtpamiglinmfgkaaDoor
