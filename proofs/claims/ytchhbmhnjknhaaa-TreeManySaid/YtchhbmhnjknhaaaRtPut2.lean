/- Contract of the reference's Put where it puts: a new key, a key that is there. -/
import Derived.Test.YtchhbmhnjknhaaaRtPut
import Derived.Test.YtchhbmhnjknhaaaPkClone
namespace Go.Proofs.Ytchhbmhnjknhaaa
open Go.RowKit

theorem putC_ok {X : List Nx} {s : ByteArray} {v : List Nat} {want : Nat} (h : putC X s v want = 0) :
    1 ≤ s.size ∧ s.size ≤ 64 ∧ v.length ≤ 3840 ∧ ((want = 0 ∧ ¬ atN X s < X.length ∧ X.length < 256) ∨ (want ≠ 0 ∧ atN X s < X.length ∧ (X.getD (atN X s) default).t.ver = want)) := by
  unfold putC at h
  split at h
  · omega
  split at h
  · omega
  split at h
  · omega
  split at h
  · omega
  split at h
  · omega
  split at h
  · omega
  rename_i h1 h2 h3 h4 h5 h6
  refine ⟨by omega, by omega, by omega, ?_⟩
  by_cases hin : atN X s < X.length
  · right
    refine ⟨fun h0 => h3 ⟨h0, hin⟩, hin, ?_⟩
    rcases Nat.lt_trichotomy (X.getD (atN X s) default).t.ver want with h | h | h
    · exact absurd ⟨hin, by omega⟩ h5
    · exact h
    · exact absurd ⟨hin, by omega⟩ h5
  · left
    refine ⟨?_, hin, ?_⟩
    · rcases Nat.eq_zero_or_pos want with h | h
      · exact h
      · exact absurd ⟨by omega, hin⟩ h4
    · rcases Nat.lt_or_ge X.length 256 with h | h
      · exact h
      · exact absurd ⟨hin, h⟩ h6

/-- What Put leaves where it puts: the nodes X', as nodes L'. -/
def PutEnd (w : World) (B p : Nat) (F : List Nat) (L' : List Nd) (ret : Nat) (e : Ending) (w' : World) : Prop :=
  e = .returned (.tuple #[.int .u64 (ret : Nat), .int .i64 0]) ∧ ∃ X', nds X' = L' ∧ RtTo w w' B p F X'

set_option maxRecDepth 100000 in
set_option maxHeartbeats 2000000 in
theorem rput_new {w : World} {B p : Nat} {F : List Nat} {a : Option Addr} {cap : Nat} {X : List Nx} (s : ByteArray) (va : Option Addr) (vn vc : Nat) (v : List Nat) (own : Nat) (h : Rt w B p F a cap X) (hF : ∀ x ∈ F, x < w.heap.size) (hb : Bytes w va v) (hv : vn = v.length) (hvn : va = none → vc = 0)
    (hs1 : 1 ≤ s.size) (hs2 : s.size ≤ 64) (hv2 : v.length ≤ 3840) (hown : own < 18446744073709551616) (hout : ¬ atN X s < X.length) (hfew : X.length < 256) :
    Calls Try.prog 14 #[.pointer (some ⟨p, 0, none⟩), .string s, .slice va vn vc, .int .u64 0, .int .u64 (own : Nat)] w (PutEnd w B p F (nds X ++ [⟨s, v, 1, own⟩]) 1) := by
  obtain ⟨i0, hi, hz0, hz1, hz2⟩ := info_parts Try.info44
  have HI := Lib.hid hi; clear hi
  have HZ0 := Lib.hid hz0; clear hz0
  have HZ1 := Lib.hid hz1; clear hz1
  have HZ2 := Lib.hid hz2; clear hz2
  obtain ⟨i1, hi, hz0, hz1, hz2⟩ := info_parts Try.info5
  have UI := Lib.hid hi; clear hi
  have UZ0 := Lib.hid hz0; clear hz0
  have UZ1 := Lib.hid hz1; clear hz1
  have UZ2 := Lib.hid hz2; clear hz2
  have hat : atI X s = -1 := by unfold atI; rw [if_neg hout]
  have hR := rat_any s h
  rw [hat] at hR
  have HR := Lib.hid hR; clear hR hat
  have hvn2 : vn ≤ 3840 := by omega
  obtain ⟨n, hnn⟩ : ∃ n, n = X.length := ⟨_, rfl⟩
  have hn : n < 256 := by omega
  have HH := Lib.hid h
  have HB := Lib.hid hb; clear hb
  have HV := Lib.hid hv; clear hv
  have HVN := Lib.hid hvn; clear hvn
  have HN := Lib.hid hnn
  have HPF : Hid (∀ x ∈ p :: F, x < w.heap.size) := Lib.hid fun x hx => by
    rcases List.mem_cons.1 hx with rfl | h1
    · exact HH.out.tree.lt
    · exact hF x h1
  have HS2 := Lib.hid (show s.size ≤ 9223372036854775807 by omega)
  have HOWN := Lib.hid hown
  have cw := h.tree.cell 0
  rw [← hnn] at cw
  simp at cw
  clear h hF hnn hout hfew hv2
  go_enter Try.func14, Try.ntmps14
  go_wp2_with fail
  refine HR.out.mono ?_
  rintro e w' ⟨rfl, rfl⟩
  go_wp2_with (at_builtin; refine wpList_append_bytes rfl (.tmp 71) (.tmp 72) 30 rfl w.heap.size 5 i1 Try.underlying30 UI.out UZ0.out UZ1.out UZ2.out _ 0 [] rfl ?own1 _ _ _ v rfl ?b1 HV.out HVN.out ?fit1 ?base1 ?_)
  case own1 => exact World.ownsRow_lit w #[] 0 (Nat.le_refl _) (by unfold maxLen; omega) rfl
  case b1 => exact ((Frm.refl [] w).alloc _).bytes HB.out (by simp)
  case fit1 => omega
  case base1 => simp
  intro av cv w2 hown2 hg2
  have hf2 : Frm [] w w2 := ((Frm.refl [] w).alloc _).grown hg2 (fun k hk => .inr (by simp [Value.ownBlock] at hk; omega))
  have hbv := bytes_of_own hown2 HB.out.1
  have hlv : ∀ x, av = some x → w.heap.size ≤ x.block := fun x hx => (World.ownsRow.lt hown2 x.block (by rw [hx]; rfl)).1
  have c0 := (hf2.whole HH.out.tree (by simp)).cell 0
  rw [← HN.out] at c0
  simp at c0
  have HF2 := Lib.hid hf2
  have HBV := Lib.hid hbv
  have HLV := Lib.hid hlv
  clear hg2 hown2 hf2 hbv hlv
  -- the nodes anew
  have hfl : Frm [] w2 (w2.alloc (.cells #[] 44)) := (Frm.refl _ _).alloc _
  have hwlit : (w2.alloc (.cells #[] 44)).ownsRow w.heap.size 44 4 (.slice (some ⟨w2.heap.size, 0, none⟩) 0 0) 0 (nc []) := World.ownsRow_lit w2 #[] 0 HF2.out.size (by unfold maxLen; omega) rfl
  have hff : Frm [] w (w2.alloc (.cells #[] 44)) := HF2.out.trans hfl (U := []) (by simp) (by simp)
  have OL : NOwn (w2.alloc (.cells #[] 44)) w.heap.size 44 (p :: F) (some ⟨w2.heap.size, 0, none⟩) 0 [] := ⟨hwlit, NOk.nil _ _, fun g hg hm => by
    simp at hg; subst hg; have h1 := HPF.out _ hm; have h2 := HF2.out.size; omega⟩
  have hvx := (HH.out.row.nl.keep (F' := p :: F) hff (by simp) (fun x h => .inl h)).vals
  have hokx : NOk (w2.alloc (.cells #[] 44)) (blk (some ⟨w2.heap.size, 0, none⟩) ++ (p :: F)) X := HH.out.row.nl.ok.keep hff (by simp) (fun x hx => by
    rcases List.mem_append.1 hx with h1 | h1
    · simp at h1; right; have := HF2.out.size; omega
    · exact .inl h1)
  have cl := (hff.whole HH.out.tree (by simp)).cell 0
  rw [← HN.out] at cl
  simp at cl
  have HOL := Lib.hid OL
  have HWL := Lib.hid hwlit
  have HVX := Lib.hid hvx
  have HOX := Lib.hid hokx
  have HFF := Lib.hid hff
  have hlx : (nc X).length = n * 4 := by rw [nc_length, HN.out]
  have HLX := Lib.hid hlx
  have hfit0 : 0 + n ≤ 1000000000 := by omega
  clear hfl hwlit hff OL hvx hokx hlx
  go_wp2_with (at_builtin; refine wpList_appS (by rfl) (.tmp 77) (.tmp 81) 27 rfl w.heap.size 44 i0 (.agg #[.string ⟨#[]⟩, .slice none 0 0, .int .u64 0, .int .u64 0]) 4 56 Try.underlying27 HI.out HZ0.out rfl (by decide) HZ1.out HZ2.out (by decide) (.slice (some ⟨w2.heap.size, 0, none⟩) 0 0) 0 _ rfl HWL.out _ n cap _ rfl HVX.out HLX.out (nc_one _) HH.out.row.caps.2.2 hfit0 HFF.out.size ?_)
  intro a3 c3 w3 happ
  obtain ⟨g1, g2, g3, g4⟩ := HOL.out.app rfl HOX.out HN.out (fun x hx => Nat.lt_of_lt_of_le (HPF.out x hx) HFF.out.size) happ
  rw [List.nil_append] at g1
  have hf3 : Frm [] w2 w3 := ((Frm.refl [] w2).alloc (.cells #[] 44)).trans g2 (U := []) (by simp) (fun x hx => .inr (by simp at hx; omega))
  have HF3 := Lib.hid (HF2.out.trans hf3 (U := []) (by simp) (by simp))
  have HBV3 := Lib.hid (hf3.bytes HBV.out.2.1 (by simp))
  have hg3 : ∀ x ∈ blk a3, w2.heap.size ≤ x := fun x hx => by
    rcases g3 x hx with h1 | h1
    · simp at h1; omega
    · simp at h1; omega
  have HLT : Hid (∀ x, av = some x → v ≠ [] → x.block < w2.heap.size) := Lib.hid fun x hx hne => bytes_lt HBV.out.2.1 hne x hx
  have HG3 := Lib.hid hg3
  have HO3 := Lib.hid g1
  clear happ g1 g2 g3 g4 hf3 hg3 HOL HWL HVX HOX HFF HLX hfit0
  -- one more
  obtain ⟨w4, hw4⟩ : ∃ w4, w4 = w3.alloc (.cells #[.string s, .slice av vn cv, .int .u64 1, .int .u64 (own : Nat)] 44) := ⟨_, rfl⟩
  have hf4 : Frm [] w3 w4 := by rw [hw4]; exact (Frm.refl _ _).alloc _
  have hv4 : ValsAt w4 (some ⟨w3.heap.size, 0, none⟩) (nc [⟨⟨s, v, 1, own⟩, av, cv⟩]) := by
    rw [hw4, HV.out]; exact nvals_one w3 ⟨⟨s, v, 1, own⟩, av, cv⟩ _
  have ho4 := HO3.out.keep (F' := p :: F) hf4 (by simp) (fun x h => .inl h)
  have hok4 : NOk w4 (blk a3 ++ (p :: F)) [⟨⟨s, v, 1, own⟩, av, cv⟩] := fun y hy => by
    simp at hy
    subst hy
    refine ⟨hf4.bytes HBV3.out (by simp), fun hne x hx hm => ?_, HBV.out.2.2, by show (1 : Nat) < _; omega, HOWN.out, HS2.out⟩
    have h1 := HLT.out x hx hne
    have h2 := HLV.out x hx
    rcases List.mem_append.1 hm with h | h
    · have := HG3.out _ h; omega
    · have := HPF.out _ h; omega
  have hown4 := ho4.own
  rw [← HN.out] at hown4
  have HO4 := Lib.hid ho4
  have HW4 := Lib.hid hown4
  have HV4 := Lib.hid hv4
  have HK4 := Lib.hid hok4
  have HF4 := Lib.hid (HF3.out.trans hf4 (U := []) (by simp) (by simp))
  have HWW := Lib.hid hw4
  have hfit1 : n + 1 ≤ 1000000000 := by omega
  clear hw4 hf4 hv4 ho4 hok4 hown4 HO3 HG3 HBV3
  go_wp2_with (at_builtin; rw [← HWW.out]; refine wpList_appS (by rfl) (.tmp 82) (.tmp 87) 27 rfl w.heap.size 44 i0 (.agg #[.string ⟨#[]⟩, .slice none 0 0, .int .u64 0, .int .u64 0]) 4 56 Try.underlying27 HI.out HZ0.out rfl (by decide) HZ1.out HZ2.out (by decide) (.slice a3 n c3) n _ rfl HW4.out _ 1 1 _ rfl HV4.out rfl (nc_one _) (fun h => by cases h) hfit1 HF4.out.size ?_)
  intro a5 c5 w5 happ
  obtain ⟨g1, g2, g3, g4⟩ := HO4.out.app HN.out HK4.out rfl (fun x hx => Nat.lt_of_lt_of_le (HPF.out x hx) HF4.out.size) happ
  have hf5 := HF4.out.trans g2 (U := []) (by simp) (fun x hx => .inr (HO4.out.blk_lt x hx).1)
  have hl5 : (X ++ [(⟨⟨s, v, 1, own⟩, av, cv⟩ : Nx)]).length = n + 1 := by rw [List.length_append, ← HN.out]; rfl
  have hst := Rt.store HH.out hf5 g1 (by rw [hl5]; omega)
  rw [hl5] at hst
  have HST := Lib.hid hst
  have f0 := (hf5.whole HH.out.tree (by simp)).free 0
  have c5 := (hf5.whole HH.out.tree (by simp)).cell 0
  rw [← HN.out] at c5
  simp at c5
  clear happ g1 g2 g3 g4 hst hf5 hl5
  go_wp2
  go_ret2
  exact ⟨rfl, _, by simp [nds], HST.out⟩
end Go.Proofs.Ytchhbmhnjknhaaa
