/- PackBack: for every row of things and every rest the law answers true and writes nothing that was there. No condition. -/
import Derived.Test.YtpamiglinmfgkaaPkBack
namespace Go.Proofs.Ytpamiglinmfgkaa
open Go.RowKit

theorem enters_back (args : Array Value) (w : World) : (callFunc 15 args).run Try.prog w = .ok (.enter 15 args) w := by kernel_rfl

set_option maxRecDepth 100000 in
set_option maxHeartbeats 4000000 in
theorem packBack_big (a : Option Addr) (n cap : Nat) (ts : List Th) (am : Option Addr) (lm cm : Nat) (w : World) (h : Things w a ts) (hn : n = ts.length) (hn63 : n ≤ 9223372036854775807) (hbig : 60 < n ∨ ∃ t ∈ ts, Big t) :
    Calls Try.prog 4 #[.slice a n cap, .slice am lm cm] w fun e w' => e = .returned (.bool true) ∧ Below w.heap.size w w' := by
  obtain ⟨wa, hwa⟩ : ∃ wa, wa = w.alloc (.cells #[.slice a n cap] 22) := ⟨_, rfl⟩
  obtain ⟨lg, hlg⟩ : ∃ lg, lg = w.heap.size := ⟨_, rfl⟩
  have HL0 : Hid (Whole wa lg 22 #[.slice a n cap]) := by rw [hwa]; exact Whole.made' _ _ hlg
  have HFA : Hid (Frm [] w wa) := by rw [hwa]; exact (Frm.refl _ _).alloc _
  have LB := Lib.hid (fun (w' : World) (h' : Things w' a ts) => long_big a n cap ts w' h' hn hn63 hbig)
  have H := Lib.hid h
  have HWA := Lib.hid hwa
  have HLG := Lib.hid hlg
  clear h hbig hn hwa hlg hn63
  go_enter Try.func4, Try.ntmps4
  go_wp2_with fail
  rw [← HLG.out, ← HWA.out]
  refine (awake2_any wa).mono ?_
  rintro e w1 ⟨rfl, hb⟩
  have HF1 : Hid (Frm [] w w1) := HFA.out.trans (Frm.ofBelow hb) (U := []) (by simp) (by simp)
  have d1 := ((Frm.ofBelow hb).whole HL0.out (by simp)).cell 0
  simp at d1
  clear hb
  go_wp2_with fail
  refine (LB.out w1 (H.out.keep HF1.out)).mono ?_
  rintro e w2 ⟨rfl, hf⟩
  have HF := Lib.hid ((HF1.out.trans hf (U := []) (by simp) (by simp)).below (B := w.heap.size) (by simp) (Nat.le_refl _))
  clear hf d1
  go_wp2
  go_ret
  exact ⟨rfl, HF.out⟩

set_option maxRecDepth 100000 in
set_option maxHeartbeats 4000000 in
theorem packBack_more (a : Option Addr) (n cap : Nat) (ts : List Th) (am : Option Addr) (lm cm : Nat) (w : World) (h : Things w a ts) (hn : n = ts.length) (h60 : n ≤ 60) (hs : ∀ t ∈ ts, ¬ Big t) (hlong : 1000 < lm) :
    Calls Try.prog 4 #[.slice a n cap, .slice am lm cm] w fun e w' => e = .returned (.bool true) ∧ Below w.heap.size w w' := by
  obtain ⟨wa, hwa⟩ : ∃ wa, wa = w.alloc (.cells #[.slice a n cap] 22) := ⟨_, rfl⟩
  obtain ⟨lg, hlg⟩ : ∃ lg, lg = w.heap.size := ⟨_, rfl⟩
  have HL0 : Hid (Whole wa lg 22 #[.slice a n cap]) := by rw [hwa]; exact Whole.made' _ _ hlg
  have HFA : Hid (Frm [] w wa) := by rw [hwa]; exact (Frm.refl _ _).alloc _
  have LS := Lib.hid (fun (w' : World) (h' : Things w' a ts) => long_small a n cap ts w' h' hn h60 hs)
  have H := Lib.hid h
  have HWA := Lib.hid hwa
  have HLG := Lib.hid hlg
  have hl : (1000 : Int) < (lm : Int) := by omega
  clear h hs hn hwa hlg h60 hlong
  go_enter Try.func4, Try.ntmps4
  go_wp2_with fail
  rw [← HLG.out, ← HWA.out]
  refine (awake2_any wa).mono ?_
  rintro e w1 ⟨rfl, hb⟩
  have HF1 : Hid (Frm [] w w1) := HFA.out.trans (Frm.ofBelow hb) (U := []) (by simp) (by simp)
  have d1 := ((Frm.ofBelow hb).whole HL0.out (by simp)).cell 0
  simp at d1
  clear hb
  go_wp2_with fail
  refine (LS.out w1 (H.out.keep HF1.out)).mono ?_
  rintro e w2 ⟨rfl, hf⟩
  have HF := Lib.hid ((HF1.out.trans hf (U := []) (by simp) (by simp)).below (B := w.heap.size) (by simp) (Nat.le_refl _))
  clear hf d1
  go_wp2
  go_ret
  exact ⟨rfl, HF.out⟩

set_option maxRecDepth 100000 in
set_option maxHeartbeats 4000000 in
theorem packBack_main (a : Option Addr) (n cap : Nat) (ts : List Th) (am : Option Addr) (lm cm : Nat) (more : List Nat) (w : World) (h : Things w a ts) (hn : n = ts.length) (h60 : n ≤ 60) (hs : ∀ t ∈ ts, ¬ Big t)
    (hmo : Bytes w am more) (hlm : lm = more.length) (hnil : am = none → cm = 0) (hm1 : lm ≤ 1000) :
    Calls Try.prog 4 #[.slice a n cap, .slice am lm cm] w fun e w' => e = .returned (.bool true) ∧ Below w.heap.size w w' := by
  obtain ⟨wa, hwa⟩ : ∃ wa, wa = w.alloc (.cells #[.slice a n cap] 22) := ⟨_, rfl⟩
  obtain ⟨lg, hlg⟩ : ∃ lg, lg = w.heap.size := ⟨_, rfl⟩
  have HL0 : Hid (Whole wa lg 22 #[.slice a n cap]) := by rw [hwa]; exact Whole.made' _ _ hlg
  have HFA : Hid (Frm [] w wa) := by rw [hwa]; exact (Frm.refl _ _).alloc _
  have LS := Lib.hid (fun (w' : World) (h' : Things w' a ts) => long_small a n cap ts w' h' hn h60 hs)
  have PL := Lib.hid (fun (w' : World) (h' : Things w' a ts) => put_law a n cap ts w' h' hn h60 hs)
  have hme : (encs ts).length ≤ 100000 := by have := encs_len ts hs; omega
  have BY := Lib.hid (fun (wr w1 : World) (rb cb db rg : Nat) (hT : Told wr w1 rb cb db (encs ts ++ more)) (hf : Frm [] w wr) (hl : Whole wr lg 22 #[.slice a n cap]) (hr : Whole wr rg 4 #[.bool true]) (hrg : w.heap.size ≤ rg) =>
    back_by w wr w1 rb cb db lg rg a n cap ts more h hn h60 hs hT hf hl hr hrg)
  have H := Lib.hid h
  have HWA := Lib.hid hwa
  have HLG := Lib.hid hlg
  have HMO := Lib.hid hmo
  have HLM := Lib.hid hlm
  have HNIL := Lib.hid hnil
  clear h hs hn hwa hlg h60 hmo hlm hnil
  unfold PutLaw at PL
  obtain ⟨E, hE⟩ : ∃ E, E = encs ts := ⟨_, rfl⟩
  rw [← hE] at PL hme BY
  clear hE
  obtain ⟨m, hmE⟩ : ∃ m, m = E.length := ⟨_, rfl⟩
  rw [← hmE] at hme
  have HME := Lib.hid hmE
  have HME2 := Lib.hid hme
  obtain ⟨i0, hi, hz0, hz1, hz2⟩ := info_parts Try.info5
  have HI := Lib.hid hi
  have HZ0 := Lib.hid hz0
  have HZ1 := Lib.hid hz1
  have HZ2 := Lib.hid hz2
  have hl : ¬ (1000 : Int) < (lm : Int) := by omega
  have HM1 := Lib.hid hm1
  clear hi hz0 hz1 hz2 hmE hme hm1
  go_enter Try.func4, Try.ntmps4
  go_wp2_with fail
  rw [← HLG.out, ← HWA.out]
  refine (awake2_any wa).mono ?_
  rintro e w1 ⟨rfl, hb⟩
  have HF1 : Hid (Frm [] w w1) := HFA.out.trans (Frm.ofBelow hb) (U := []) (by simp) (by simp)
  have HL1 : Hid (Whole w1 lg 22 #[.slice a n cap]) := (Frm.ofBelow hb).whole HL0.out (by simp)
  have d1 := HL1.out.cell 0
  simp at d1
  clear hb
  go_wp2_with fail
  refine (LS.out w1 (H.out.keep HF1.out)).mono ?_
  rintro e w2 ⟨rfl, hf⟩
  have HL2 : Hid (Whole w2 lg 22 #[.slice a n cap]) := hf.whole HL1.out (by simp)
  have HF2 : Hid (Frm [] w w2) := HF1.out.trans hf (U := []) (by simp) (by simp)
  have d2 := HL2.out.cell 0
  simp at d2
  clear hf d1 HL1 HF1
  go_wp2_with fail
  refine (PL.out w2 (H.out.keep HF2.out)).mono ?_
  rintro e w3 ⟨F, ab, cb, rfl, hst⟩
  have HL3 : Hid (Whole w3 lg 22 #[.slice a n cap]) := hst.frm.whole HL2.out (by simp)
  have HF3 : Hid (Frm [] w w3) := HF2.out.trans hst.frm (U := []) (by simp) (by simp)
  obtain ⟨p, hp⟩ : ∃ p, p = w2.heap.size := ⟨_, rfl⟩
  rw [← hp] at hst ⊢
  have HST := Lib.hid hst
  clear hst d2 hp HL2 HF2 PL LS
  go_wp2_with fail
  obtain ⟨w4, hw4⟩ : ∃ w4, w4 = w3.alloc (.cells #[.bool true] 4) := ⟨_, rfl⟩
  obtain ⟨rg, hrg⟩ : ∃ rg, rg = w3.heap.size := ⟨_, rfl⟩
  have HR4 : Hid (Whole w4 rg 4 #[.bool true]) := by rw [hw4]; exact Whole.made' _ _ hrg
  have HF4 : Hid (Frm [] w3 w4) := by rw [hw4]; exact (Frm.refl _ _).alloc _
  have HBASE : Hid (w.heap.size ≤ rg) := by rw [hrg]; exact HF3.out.size
  have HST4 := Lib.hid (HST.out.keep HF4.out)
  rw [← hrg, ← hw4]
  clear hrg hw4
  refine (done_any HST4.out.wr (by have := HME.out; have := HME2.out; omega)).mono ?_
  rintro e w5 ⟨ax, cx, rfl, hox, hfx⟩
  rw [← HME.out] at hox ⊢
  have HOX := Lib.hid hox
  have HF5 := Lib.hid hfx
  clear hox hfx
  go_wp2_with (at_builtin; refine wpList_app rfl (.tmp 24) (.tmp 25) 26 rfl w4.heap.size 5 i0 Try.underlying26 HI.out HZ0.out HZ1.out HZ2.out (.slice ax m cx) m (E.map u8v) rfl HOX.out _ _ _ more rfl ?b1 HLM.out HNIL.out ?fit1 ?base1 ?_)
  case b1 => exact HF5.out.bytes (HF4.out.bytes (HF3.out.bytes HMO.out (by simp)) (by simp)) (by simp)
  case fit1 => have := HM1.out; have := HME2.out; omega
  case base1 => exact HF5.out.size
  intro ay cy w6 happ
  have HF6 : Hid (Frm [] w4 w6) := HF5.out.grown happ.grown (fun k hk => .inr (HOX.out.lt k hk).1)
  have how := happ.own
  rw [← List.map_append] at how
  clear happ
  obtain ⟨G, hG⟩ : ∃ G, G = E ++ more := ⟨_, rfl⟩
  obtain ⟨q, hq⟩ : ∃ q, q = m + lm := ⟨_, rfl⟩
  have hqG : q = G.length := by rw [hG, hq, List.length_append, HME.out, HLM.out]
  have h8G : ∀ c ∈ G, c < 256 := by
    intro c hc
    rw [hG] at hc
    rcases List.mem_append.1 hc with h | h
    · exact HST4.out.wr.1 c h
    · exact HMO.out.1 c h
  rw [← hG, ← hq] at how
  rw [← hq]
  rw [← hG] at BY
  have HQB : Hid (q ≤ 200000) := by rw [hq]; have := HM1.out; have := HME2.out; show m + lm ≤ 200000; omega
  have HCG : Hid (Cl w6 G ay cy) := own_cl (by rw [← hqG]; exact how) h8G
  have HQG := Lib.hid hqG
  have HR6 : Hid (Whole w6 rg 4 #[.bool true]) := HF6.out.whole HR4.out (by simp)
  have HL6 : Hid (Whole w6 lg 22 #[.slice a n cap]) := HF6.out.whole (HF4.out.whole HL3.out (by simp)) (by simp)
  have HFF : Hid (Frm [] w w6) := (HF3.out.trans HF4.out (U := []) (by simp) (by simp)).trans HF6.out (U := []) (by simp) (by simp)
  clear hqG how h8G hG hq
  have hmf : ∀ (fn : Fn) (first cap : Array Value) (w : World), (Instr.makeFunc fn first cap).run Try.prog w = .ok (.func fn first cap) w := fun _ _ _ _ => rfl
  go_wp2_with fail
  refine (read_ret 15 #[.pointer (some ⟨lg, 0, none⟩), .pointer (some ⟨rg, 0, none⟩)] ay q cy G w6 (fun w2 rest => Frm [] w w2 ∧ rest = more ∧ Whole w2 rg 4 #[.bool true]) HCG.out.bytes HQG.out HCG.out.nil (by have := HQB.out; omega) enters_back
    (fun w1 rb cb db hT => BY.out w6 w1 rb cb db rg hT HFF.out HL6.out HR6.out HBASE.out)).mono ?_
  rintro e w7 ⟨w8, c, T, rfl, ⟨rest, ⟨hfw, rfl, hrt⟩, hc⟩, hfT, hT⟩
  have HFIN : Hid (Below w.heap.size w w7) := (hfw.fresh (fun x hx => Nat.le_trans HFF.out.size (hT x hx)) hfT).below (by simp) (Nat.le_refl _)
  have d7 := (hfT.whole hrt (fun hm => by have h1 := hT rg hm; have h2 := HR6.out.lt; omega)).cell 0
  simp at d7
  have HLR : Hid (lm = rest.length) := HLM.out
  clear hfw hrt hfT hT
  by_cases hz : 0 < lm
  · have hz' : (0 : Int) < (lm : Int) := by omega
    obtain rfl : c = 5 := by rw [hc, if_neg (by intro h0; rw [h0] at HLR; have := HLR.out; simp at this; omega)]
    clear hz hc
    go_wp2
    go_ret
    exact ⟨rfl, HFIN.out⟩
  · have hz' : ¬ (0 : Int) < (lm : Int) := by omega
    obtain rfl : c = 0 := by rw [hc, if_pos (List.eq_nil_of_length_eq_zero (by have := HLR.out; omega))]
    clear hz hc
    go_wp2
    go_ret
    exact ⟨rfl, HFIN.out⟩

theorem packBack_walk (a : Option Addr) (n cap : Nat) (ts : List Th) (am : Option Addr) (lm cm : Nat) (more : List Nat) (w : World) (h : Things w a ts) (hn : n = ts.length) (hn63 : n ≤ 9223372036854775807)
    (hmo : Bytes w am more) (hlm : lm = more.length) (hnil : am = none → cm = 0) :
    Calls Try.prog 4 #[.slice a n cap, .slice am lm cm] w fun e w' => e = .returned (.bool true) ∧ Below w.heap.size w w' := by
  by_cases hbig : 60 < n ∨ ∃ t ∈ ts, Big t
  · exact packBack_big a n cap ts am lm cm w h hn hn63 hbig
  have h60 : n ≤ 60 := by
    rcases Nat.lt_or_ge 60 n with h' | h'
    · exact absurd (.inl h') hbig
    · exact h'
  have hs : ∀ t ∈ ts, ¬ Big t := fun t ht hb => hbig (.inr ⟨t, ht, hb⟩)
  by_cases hlong : 1000 < lm
  · exact packBack_more a n cap ts am lm cm w h hn h60 hs hlong
  · exact packBack_main a n cap ts am lm cm more w h hn h60 hs hmo hlm hnil (by omega)
end Go.Proofs.Ytpamiglinmfgkaa
