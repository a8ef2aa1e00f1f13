/- Contract of the reference's Put of a key that is there; Put in all. -/
import Derived.Test.YtchhbmhnjknhaaaRtPut2
namespace Go.Proofs.Ytchhbmhnjknhaaa
open Go.RowKit

theorem nc_set (X : List Nx) (y : Nx) : ∀ q, q < X.length → y.t.k = (X.getD q default).t.k → y.t.own = (X.getD q default).t.own →
    nc (X.set q y) = ((nc X).set (q * 4 + 1) (.slice y.a y.t.v.length y.c)).set (q * 4 + 2) (.int .u64 (y.t.ver : Nat)) := by
  induction X with
  | nil => intro q h; simp at h
  | cons x X ih =>
    intro q hq hk ho
    have e : nc (x :: X) = .string x.t.k :: .slice x.a x.t.v.length x.c :: .int .u64 (x.t.ver : Nat) :: .int .u64 (x.t.own : Nat) :: nc X := rfl
    rcases q with _ | q
    · simp only [List.getD_cons_zero] at hk ho
      rw [e]
      simp [nc, Nx.cells, hk, ho]
    · have h := ih q (by simpa using hq) (by simpa using hk) (by simpa using ho)
      rw [List.set_cons_succ, nc_cons, h, e, show (q + 1) * 4 + 1 = q * 4 + 1 + 1 + 1 + 1 + 1 by omega, show (q + 1) * 4 + 2 = q * 4 + 2 + 1 + 1 + 1 + 1 by omega]
      rfl
theorem nds_set (X : List Nx) (y : Nx) (q : Nat) : nds (X.set q y) = (nds X).set q y.t := by simp [nds, List.map_set]

set_option maxRecDepth 100000 in
set_option maxHeartbeats 2000000 in
theorem rput_old {w : World} {B p : Nat} {F : List Nat} {a : Option Addr} {cap : Nat} {X : List Nx} (s : ByteArray) (va : Option Addr) (vn vc : Nat) (v : List Nat) (want own q nv : Nat) (h : Rt w B p F a cap X) (hF : ∀ x ∈ F, x < w.heap.size) (hb : Bytes w va v) (hv : vn = v.length) (hvn : va = none → vc = 0)
    (hs1 : 1 ≤ s.size) (hs2 : s.size ≤ 64) (hv2 : v.length ≤ 3840) (hw0 : want ≠ 0) (_hw : want < 18446744073709551616) (hq : q = atN X s) (hin : q < X.length) (hver : (X.getD q default).t.ver = want) (hnv : nv = (want + 1) % 18446744073709551616) :
    Calls Try.prog 14 #[.pointer (some ⟨p, 0, none⟩), .string s, .slice va vn vc, .int .u64 (want : Nat), .int .u64 (own : Nat)] w (PutEnd w B p F ((nds X).set q ⟨s, v, nv, (X.getD q default).t.own⟩) nv) := by
  obtain ⟨i0, hi, hz0, hz1, hz2⟩ := info_parts Try.info44
  have HI := Lib.hid hi; clear hi
  have HZ0 := Lib.hid hz0; clear hz0
  have HZ1 := Lib.hid hz1; clear hz1
  have HZ2 := Lib.hid hz2; clear hz2
  obtain ⟨i1, hi, hz0, hz1, hz2⟩ := info_parts Try.info5
  have UI := Lib.hid hi; clear hi
  have UZ0 := Lib.hid hz0; clear hz0
  have UZ1 := Lib.hid hz1; clear hz1
  have UZ2 := Lib.hid hz2; clear hz2
  have hat : atI X s = (q : Int) := by unfold atI; rw [← hq, if_pos hin]
  have hR := rat_any s h
  rw [hat] at hR
  have HR := Lib.hid hR; clear hR hat
  have hvn2 : vn ≤ 3840 := by omega
  obtain ⟨n, hnn⟩ : ∃ n, n = X.length := ⟨_, rfl⟩
  have hn : n ≤ 256 := by have := h.few; omega
  have hqn : q < n := by omega
  have hkey : (X.getD q default).t.k = s := by rw [hq]; exact atN_key (by rw [← hq]; exact hin)
  obtain ⟨xo, hxo⟩ : ∃ xo, xo = (X.getD q default).t.own := ⟨_, rfl⟩
  have hxo2 := (h.row.nl.ok (X.getD q default) (by simp [hin])).own
  rw [← hxo] at hxo2 ⊢
  have HH := Lib.hid h
  have HB := Lib.hid hb; clear hb
  have HV := Lib.hid hv; clear hv
  have HVN := Lib.hid hvn; clear hvn
  have HN := Lib.hid hnn
  have HPF : Hid (∀ x ∈ p :: F, x < w.heap.size) := Lib.hid fun x hx => by
    rcases List.mem_cons.1 hx with rfl | h1
    · exact HH.out.tree.lt
    · exact hF x h1
  have HS2 := Lib.hid (show s.size ≤ 9223372036854775807 by omega)
  have HKEY := Lib.hid hkey
  have HXO := Lib.hid hxo
  have HXO2 := Lib.hid hxo2
  have hw1 : ((want : Int) == 0) = false := by simp; omega
  have hw2 : ((want : Int) != 0) = true := by simp; omega
  have hw3 : ((want : Int) != (want : Int)) = false := by simp
  have hnv2 : ((want : Int) + 1) % 18446744073709551616 = (nv : Int) := by omega
  have hnv3 : IntKind.u64.wrap ((want : Int) + 1) = (nv : Int) := by rw [← hnv2]; rfl
  have hnv4 : nv < 18446744073709551616 := by omega
  have HNV4 := Lib.hid hnv4
  have cw := h.tree.cell 0
  rw [← hnn] at cw
  simp at cw
  obtain ⟨b, off, hab, _, _, p2, _, _⟩ := h.row.nl.at hin
  rw [hver] at p2
  have HAB := Lib.hid hab
  have cw2 := cw
  rw [hab] at cw2
  have HCW := Lib.hid cw
  clear h hF hnn hin hv2 hver hnv hkey hxo hxo2 hq cw hab hw0 hnv4
  go_enter Try.func14, Try.ntmps14
  go_wp2_with fail
  refine HR.out.mono ?_
  rintro e w' ⟨rfl, rfl⟩
  go_wp2_with (at_builtin; refine wpList_append_bytes rfl (.tmp 71) (.tmp 72) 30 rfl w.heap.size 5 i1 Try.underlying30 UI.out UZ0.out UZ1.out UZ2.out _ 0 [] rfl ?own1 _ _ _ v rfl ?b1 HV.out HVN.out ?fit1 ?base1 ?_)
  case own1 => exact World.ownsRow_lit w #[] 0 (Nat.le_refl _) (by unfold maxLen; omega) rfl
  case b1 => exact ((Frm.refl [] w).alloc _).bytes HB.out (by simp)
  case fit1 => omega
  try (case base1 => simp)
  intro av cv w2 hown2 hg2
  have hf2 : Frm [] w w2 := ((Frm.refl [] w).alloc _).grown hg2 (fun k hk => .inr (by simp [Value.ownBlock] at hk; omega))
  have hbv := bytes_of_own hown2 HB.out.1
  have hlv : ∀ x, av = some x → w.heap.size ≤ x.block := fun x hx => (World.ownsRow.lt hown2 x.block (by rw [hx]; rfl)).1
  have c0 := (hf2.whole HH.out.tree (by simp)).cell 0
  rw [← HN.out] at c0
  simp at c0
  have HF2 := Lib.hid hf2
  have HBV := Lib.hid hbv
  have HLV := Lib.hid hlv
  clear hg2 hown2 hf2 hbv hlv
  have hfl : Frm [] w2 (w2.alloc (.cells #[] 44)) := (Frm.refl _ _).alloc _
  have hwlit : (w2.alloc (.cells #[] 44)).ownsRow w.heap.size 44 4 (.slice (some ⟨w2.heap.size, 0, none⟩) 0 0) 0 (nc []) := World.ownsRow_lit w2 #[] 0 HF2.out.size (by unfold maxLen; omega) rfl
  have hff : Frm [] w (w2.alloc (.cells #[] 44)) := HF2.out.trans hfl (U := []) (by simp) (by simp)
  have OL : NOwn (w2.alloc (.cells #[] 44)) w.heap.size 44 (p :: F) (some ⟨w2.heap.size, 0, none⟩) 0 [] := ⟨hwlit, NOk.nil _ _, fun g hg hm => by
    simp at hg; subst hg; have h1 := HPF.out _ hm; have h2 := HF2.out.size; omega⟩
  have hvx := (HH.out.row.nl.keep (F' := p :: F) hff (by simp) (fun x h => .inl h)).vals
  have hokx : NOk (w2.alloc (.cells #[] 44)) (blk (some ⟨w2.heap.size, 0, none⟩) ++ (p :: F)) X := HH.out.row.nl.ok.keep hff (by simp) (fun x hx => by
    rcases List.mem_append.1 hx with h1 | h1
    · simp at h1; right; have := HF2.out.size; omega
    · exact .inl h1)
  have cl := (hff.whole HH.out.tree (by simp)).cell 0
  rw [← HN.out] at cl
  simp at cl
  have HOL := Lib.hid OL
  have HWL := Lib.hid hwlit
  have HVX := Lib.hid hvx
  have HOX := Lib.hid hokx
  have HFF := Lib.hid hff
  have hlx : (nc X).length = n * 4 := by rw [nc_length, HN.out]
  have HLX := Lib.hid hlx
  have hfit0 : 0 + n ≤ 1000000000 := by omega
  clear hfl hwlit hff OL hvx hokx hlx
  go_wp2_with (at_builtin; refine wpList_appS (by rfl) (.tmp 91) (.tmp 95) 27 rfl w.heap.size 44 i0 (.agg #[.string ⟨#[]⟩, .slice none 0 0, .int .u64 0, .int .u64 0]) 4 56 Try.underlying27 HI.out HZ0.out rfl (by decide) HZ1.out HZ2.out (by decide) (.slice (some ⟨w2.heap.size, 0, none⟩) 0 0) 0 _ rfl HWL.out _ n cap _ rfl HVX.out HLX.out (nc_one _) HH.out.row.caps.2.2 hfit0 HFF.out.size ?_)
  intro a3 c3 w3 happ
  obtain ⟨g1, g2, g3, g4⟩ := HOL.out.app rfl HOX.out HN.out (fun x hx => Nat.lt_of_lt_of_le (HPF.out x hx) HFF.out.size) happ
  rw [List.nil_append] at g1
  have hf3 : Frm [] w2 w3 := ((Frm.refl [] w2).alloc (.cells #[] 44)).trans g2 (U := []) (by simp) (fun x hx => .inr (by simp at hx; omega))
  have hg3 : ∀ x ∈ blk a3, w2.heap.size ≤ x := fun x hx => by
    rcases g3 x hx with h1 | h1
    · simp at h1; omega
    · simp at h1; omega
  have hF3 := HF2.out.trans hf3 (U := []) (by simp) (by simp)
  obtain ⟨g, rfl⟩ : ∃ g, a3 = some ⟨g, 0, none⟩ := by
    rcases g1.own.2 with ⟨_, h0⟩ | ⟨g, _, _, hv, _⟩
    · exfalso; have := HN.out; omega
    · simp only [Value.slice.injEq] at hv
      exact ⟨g, hv.1⟩
  have hgp : p ≠ g := by
    have h1 := hg3 g (by simp)
    have h2 := HPF.out p (by simp)
    have h3 := HF2.out.size
    omega
  have hrow := g1.own
  have e1 := World.ownsRow.cellAt hrow (q * 4 + 1) (by have := HN.out; omega)
  have e2 := World.ownsRow.cellAt hrow (q * 4 + 2) (by have := HN.out; omega)
  obtain ⟨_, n1, n2, _⟩ := nc_at X q (by have := HN.out; omega)
  rw [n1] at e1
  rw [n2] at e2
  have z1 := World.ownsRow.frozenAt hrow (q * 4 + 1)
  have z2 := World.ownsRow.frozenAt hrow (q * 4 + 2)
  obtain ⟨o1, _⟩ := World.ownsRow.stored hrow (q * 4 + 1) (.slice av vn cv)
  obtain ⟨o2, _⟩ := World.ownsRow.stored o1 (q * 4 + 2) (.int .u64 (nv : Nat))
  obtain ⟨w5, hw5⟩ : ∃ w5, w5 = (w3.setCell ⟨g, q * 4 + 1, none⟩ (.slice av vn cv)).setCell ⟨g, q * 4 + 2, none⟩ (.int .u64 (nv : Nat)) := ⟨_, rfl⟩
  have hbg : w.heap.size ≤ g := (g1.blk_lt g (by simp)).1
  have hf5 : Frm [g] w3 w5 := by rw [hw5]; exact ((Frm.refl _ _).setCell (.inl (by simp)) _).setCell (.inl (by simp)) _
  have hF5 : Frm [] w w5 := hF3.trans hf5 (by simp) (fun x hx => .inr (by simp at hx; omega))
  rw [← hw5] at o2
  have hset := nc_set X ⟨⟨s, v, nv, xo⟩, av, cv⟩ q (by have := HN.out; omega) HKEY.out.symm HXO.out
  rw [show (⟨⟨s, v, nv, xo⟩, av, cv⟩ : Nx).t.v.length = vn from HV.out.symm] at hset
  have hN5 : NOwn w5 w.heap.size 44 (p :: F) (some ⟨g, 0, none⟩) c3 (X.set q ⟨⟨s, v, nv, xo⟩, av, cv⟩) := by
    refine ⟨?_, fun y hy => ?_, g1.away⟩
    · rw [hset, List.length_set]; exact o2
    · rcases List.mem_or_eq_of_mem_set hy with h1 | h1
      · exact (g1.ok y h1).keep hf5 (fun x hx => .inl (by simp at hx; simp [hx])) (fun x hx => .inl hx)
      · subst h1
        have hv3 := hf3.bytes HBV.out.2.1 (by simp)
        have hav : v ≠ [] → ∀ x, av = some x → x.block ∉ blk (some ⟨g, 0, none⟩) ++ (p :: F) := fun hne x hx hm => by
          have h1 := bytes_lt HBV.out.2.1 hne x hx
          have h2 := HLV.out x hx
          rcases List.mem_append.1 hm with h | h
          · have := hg3 _ h; omega
          · have := HPF.out _ h; omega
        exact ⟨hf5.bytes' hv3 (fun hne x hx hm => hav hne x hx (by simp at hm; simp [hm])), hav, HBV.out.2.2, HNV4.out, HXO2.out, HS2.out⟩
  have hst := Rt.store HH.out hF5 hN5 (by rw [List.length_set]; have := HN.out; omega)
  rw [List.length_set, ← HN.out] at hst
  have HST := Lib.hid hst
  have k0 := (hF5.whole HH.out.tree (by simp)).cell 0
  have k1 := (hF5.whole HH.out.tree (by simp)).free 0
  rw [← HN.out] at k0
  simp at k0
  rw [hw5] at k0 k1
  have HW5 := Lib.hid hw5
  have hqi : 0 ≤ (q : Int) := by omega
  clear happ g1 g2 g3 g4 hf3 hg3 hF3 hrow n1 n2 o1 o2 hf5 hF5 hset hN5 hst hw5 HOL HWL HVX HOX HFF HLX hfit0 cl c0
  go_wp2
  go_ret2
  rw [← HW5.out]
  exact ⟨rfl, _, nds_set _ _ _, HST.out⟩

/-- Put's answer, and the nodes behind it. -/
def putL (X : List Nx) (s : ByteArray) (v : List Nat) (want own : Nat) : List Nd :=
  if putC X s v want ≠ 0 then nds X else if atN X s < X.length then (nds X).set (atN X s) ⟨s, v, (want + 1) % 18446744073709551616, (X.getD (atN X s) default).t.own⟩ else nds X ++ [⟨s, v, 1, own⟩]
def putR (X : List Nx) (s : ByteArray) (v : List Nat) (want : Nat) : Nat := if putC X s v want ≠ 0 then 0 else (want + 1) % 18446744073709551616
def PutAny (w : World) (B p : Nat) (F : List Nat) (L' : List Nd) (ret code : Nat) (e : Ending) (w' : World) : Prop :=
  e = .returned (.tuple #[.int .u64 (ret : Nat), .int .i64 (code : Nat)]) ∧ ∃ X', nds X' = L' ∧ ∃ a' c', Rt w' B p F a' c' X' ∧ Frm [p] w w'
theorem rput_any {w : World} {B p : Nat} {F : List Nat} {a : Option Addr} {cap : Nat} {X : List Nx} (s : ByteArray) (va : Option Addr) (vn vc : Nat) (v : List Nat) (want own : Nat) (h : Rt w B p F a cap X) (hF : ∀ x ∈ F, x < w.heap.size) (hb : Bytes w va v) (hv : vn = v.length) (hvn : va = none → vc = 0)
    (hs : s.size ≤ 9223372036854775807) (hw : want < 18446744073709551616) (ho : own < 18446744073709551616) :
    Calls Try.prog 14 #[.pointer (some ⟨p, 0, none⟩), .string s, .slice va vn vc, .int .u64 (want : Nat), .int .u64 (own : Nat)] w (PutAny w B p F (putL X s v want own) (putR X s v want) (putC X s v want)) := by
  by_cases hc : putC X s v want = 0
  · obtain ⟨h1, h2, h3, ⟨rfl, h5, h6⟩ | ⟨h4, h5, h6⟩⟩ := putC_ok hc
    · refine (rput_new s va vn vc v own h hF hb hv hvn h1 h2 h3 ho h5 h6).mono ?_
      rintro e w' ⟨he, X', hX, a', c', hr, hf, _⟩
      refine ⟨?_, X', ?_, a', c', hr, hf⟩
      · rw [hc, show putR X s v 0 = 1 by unfold putR; rw [if_neg (by omega)]]; exact he
      · unfold putL; rw [if_neg (by omega), if_neg h5]; exact hX
    · refine (rput_old s va vn vc v want own (atN X s) _ h hF hb hv hvn h1 h2 h3 h4 hw rfl h5 h6 rfl).mono ?_
      rintro e w' ⟨he, X', hX, a', c', hr, hf, _⟩
      refine ⟨?_, X', ?_, a', c', hr, hf⟩
      · rw [hc, show putR X s v want = (want + 1) % 18446744073709551616 by unfold putR; rw [if_neg (by omega)]]; exact he
      · unfold putL; rw [if_neg (by omega), if_pos h5]; exact hX
  · refine (rput_bad s va vn vc v want own h hv (by have := hb.2.1; omega) hs hc).mono ?_
    rintro e w' ⟨he, rfl⟩
    refine ⟨?_, X, ?_, a, cap, h, Frm.refl _ _⟩
    · rw [show putR X s v want = 0 by unfold putR; rw [if_pos hc]]; exact he
    · unfold putL; rw [if_pos hc]
end Go.Proofs.Ytchhbmhnjknhaaa
