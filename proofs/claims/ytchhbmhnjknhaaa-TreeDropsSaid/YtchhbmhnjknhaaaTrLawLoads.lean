/- TreeLoads: the walk. -/
import Derived.Test.YtchhbmhnjknhaaaTrAwake
import Derived.Test.YtchhbmhnjknhaaaTrLoad
import Derived.Test.YtchhbmhnjknhaaaTrLoads
import Derived.Test.YtchhbmhnjknhaaaInTn
namespace Go.Proofs.Ytchhbmhnjknhaaa
open Go.RowKit

/-- Nodes that a tree may have are in order. -/
theorem LoadsP.step {M : List Nd} (h : LoadsP M) : ∀ (d i : Nat), i + d + 1 < M.length → kl (M.getD i default).k (M.getD (i + d + 1) default).k = true
  | 0, i, hi => (h.2 (i + 1) hi).2.2 (by omega)
  | d + 1, i, hi => kl_trans (LoadsP.step h d i (by omega)) ((h.2 (i + (d + 1) + 1) hi).2.2 (by omega))
theorem LoadsP.good {M : List Nd} (h : LoadsP M) : Good M := by
  refine ⟨?_, fun d hd => ?_⟩
  · unfold Srt
    rw [List.pairwise_iff_getElem]
    intro i j hi hj hij
    have := h.step (j - i - 1) i (by omega)
    have e : i + (j - i - 1) + 1 = j := by omega
    rw [e] at this
    simpa [hi, hj] using this
  · obtain ⟨i, hi, rfl⟩ := List.getElem_of_mem hd
    have := (h.2 i hi).1
    have e : M.getD i default = M[i] := by simp [hi]
    rw [e] at this
    exact lenC_ok this
theorem Good.loads {M : List Nd} (h : Good M) (hl : M.length ≤ 256) (hv : ∀ d ∈ M, d.ver ≠ 0) : LoadsP M := by
  refine ⟨hl, fun i hi => ?_⟩
  have e : M.getD i default = M[i] := by simp [hi]
  have hm : M[i] ∈ M := List.getElem_mem hi
  obtain ⟨l1, l2, l3⟩ := h.lens _ hm
  refine ⟨by rw [e]; unfold lenC; rw [if_neg (by omega), if_neg (by omega)], by rw [e]; exact hv _ hm, fun h0 => h.srt.at (by omega) hi⟩
theorem pfx_empty (K : ByteArray) : pfx ⟨#[]⟩ K = true := by unfold pfx Lib.hasPrefix; simp
theorem pfx_all (M : List Nd) : M.filter (fun d => pfx ⟨#[]⟩ d.k) = M := by
  rw [List.filter_eq_self]
  intro d _
  exact pfx_empty _

/-- Nodes that came in. -/
def tnx (t : Tn) : Nx := ⟨⟨t.key, t.val, t.ver, t.own⟩, t.valA, t.valC⟩
theorem nl_of {w : World} {a : Option Addr} {ts : List Tn} (h : Tns w a ts) : NL w [] a (ts.map tnx) := by
  by_cases h0 : ts = []
  · subst h0; exact NL.nil _ _ _
  · obtain ⟨b, off, rfl, hi⟩ := h (List.length_pos_iff.2 h0)
    refine ⟨.inr ⟨b, off, rfl, fun j u hu => ?_⟩, fun x hx => ?_, fun _ q _ => by simp⟩
    · have hj : j < (nc (ts.map tnx)).length := by
        rcases Nat.lt_or_ge j (nc (ts.map tnx)).length with h' | h'
        · exact h'
        · rw [List.getElem?_eq_none h'] at hu; cases hu
      rw [nc_length, List.length_map] at hj
      have hk : j / 4 < ts.length := by omega
      obtain ⟨n0, n1, n2, n3⟩ := nc_at (ts.map tnx) (j / 4) (by rw [List.length_map]; exact hk)
      have hin := hi (j / 4) hk
      have e : (ts.map tnx).getD (j / 4) default = tnx (ts.getD (j / 4) default) := by simp [hk]
      rw [e] at n0 n1 n2 n3
      have h4 : j % 4 = 0 ∨ j % 4 = 1 ∨ j % 4 = 2 ∨ j % 4 = 3 := by omega
      rcases h4 with h4 | h4 | h4 | h4
      · have ej : j / 4 * 4 = j := by omega
        rw [ej] at n0
        rw [n0] at hu; cases hu
        have := hin.c0
        rw [ej] at this; exact this
      · have ej : j / 4 * 4 + 1 = j := by omega
        rw [ej] at n1
        rw [n1] at hu; cases hu
        have := hin.c1
        rw [Nat.add_assoc, ej] at this; exact this
      · have ej : j / 4 * 4 + 2 = j := by omega
        rw [ej] at n2
        rw [n2] at hu; cases hu
        have := hin.c2
        rw [Nat.add_assoc, ej] at this; exact this
      · have ej : j / 4 * 4 + 3 = j := by omega
        rw [ej] at n3
        rw [n3] at hu; cases hu
        have := hin.c3
        rw [Nat.add_assoc, ej] at this; exact this
    · obtain ⟨t, ht, rfl⟩ := List.mem_map.1 hx
      obtain ⟨i, hil, rfl⟩ := List.getElem_of_mem ht
      have hin := (hi i hil).ok
      have e : ts.getD i default = ts[i] := by simp [hil]
      rw [e] at hin
      exact ⟨hin.val_b, fun _ q _ => by simp, hin.val_nil, hin.ver_lt, hin.own_lt, hin.key_le⟩

set_option maxRecDepth 100000 in
set_option maxHeartbeats 4000000 in
theorem treeLoads_walk (a : Option Addr) (n cap : Nat) (ts : List Tn) (w : World) (h : Tns w a ts) (hn : n = ts.length) (h63 : n ≤ 9223372036854775807) :
    Calls Try.prog 5 #[.slice a n cap] w fun e w' => e = .returned (.bool true) ∧ Below w.heap.size w w' := by
  have HAW := Lib.hid (awake6_any w)
  have hnl := nl_of h
  obtain ⟨X, hX⟩ : ∃ X, X = ts.map tnx := ⟨_, rfl⟩
  rw [← hX] at hnl
  have hnX : n = X.length := by rw [hX, List.length_map]; exact hn
  have H := Lib.hid hnl
  have HN := Lib.hid hnX
  clear h hn hnl hX hnX
  by_cases hbig : 300 < n
  · go_enter Try.func5, Try.ntmps5
    go_wp2_with fail
    (with_reducible refine HAW.out.mono ?_)
    rintro e w1 ⟨rfl, hb⟩
    have HB := Lib.hid hb; clear hb
    go_wp2
    go_ret
    exact ⟨rfl, HB.out⟩
  · go_enter Try.func5, Try.ntmps5
    go_wp2_with fail
    (with_reducible refine HAW.out.mono ?_)
    rintro e w1 ⟨rfl, hb⟩
    have HF1 := Lib.hid (Frm.ofBelow hb); clear hb HAW
    go_wp2
    go_loopw [14] (fun u14 wr => ∃ k : Nat, k ≤ n ∧ u14 = .int .i64 (k : Nat) ∧ Frm [] w wr) (fun u14 _ => n - (intOf u14).toNat)
    case atStart => exact ⟨0, Nat.zero_le _, rfl, HF1.out⟩
    case round =>
      obtain ⟨k, hk, rfl, hf⟩ := hrel
      have HF := Lib.hid hf; clear hf
      by_cases hlt : k < n
      · obtain ⟨b, off, rfl, p0, p1, p2, p3, ok⟩ := (H.out.keep (F' := []) HF.out (by simp) (by simp)).at (i := k) (by have := HN.out; omega)
        have hvl := ok.bytes.2.1
        generalize X.getD k default = x at p0 p1 p2 p3 hvl
        obtain ⟨⟨xk, xv, xver, xown⟩, xa, xc⟩ := x
        simp only at p0 p1 p2 p3 hvl
        generalize xv.length = m at p1 hvl
        clear ok
        by_cases h5 : 5000 < m
        · go_wp2
          go_ret
          exact ⟨rfl, (HF.out.alloc _).below (by simp) (Nat.le_refl _)⟩
        · go_wp2
          go_roundw
          case rel => exact ⟨k + 1, by omega, by go_num, HF.out.alloc _⟩
          case measure => simp [intOf]; omega
      · obtain rfl : k = n := by omega
        have HLD := Lib.hid (load_any a k cap X [] wr (H.out.keep (F' := []) HF.out (by simp) (by simp)) HN.out h63 (by simp))
        have HRL := Lib.hid (fun z hz => rloads_any a k cap X [] z (H.out.keep (F' := []) (S := []) hz (by simp) (by simp)) HN.out h63)
        go_wp2_with fail
        (with_reducible refine HLD.out.mono ?_)
        rintro e w2 (⟨hno, rfl, hf2⟩ | ⟨hyes, p, a', c', L, qs, rfl, hpt, hnd, hf2⟩)
        · have HF2 := Lib.hid (HF.out.trans hf2 (U := []) (by simp) (by simp))
          have HNO := Lib.hid hno
          clear hno hf2 HLD
          go_wp2_with fail
          refine (HRL.out _ HF2.out).mono ?_
          rintro e w3 ⟨⟨b, rfl, hb⟩, hf3⟩
          have HF3 := Lib.hid (HF2.out.trans hf3 (U := []) (by simp) (by simp))
          obtain rfl : b = false := by
            cases b with
            | false => rfl
            | true => exact absurd (hb.1 rfl) HNO.out
          clear hb hf3
          go_wp2
          go_ret
          exact ⟨rfl, HF3.out.below (by simp) (Nat.le_refl _)⟩
        · have HF2 := Lib.hid (HF.out.trans hf2 (U := []) (by simp) (by simp))
          have HYES := Lib.hid hyes
          have HPT := Lib.hid hpt
          have HND := Lib.hid hnd
          clear hyes hpt hnd hf2 HLD
          go_wp2_with fail
          refine (HRL.out _ HF2.out).mono ?_
          rintro e w3 ⟨⟨b, rfl, hb⟩, hf3⟩
          have HF3 := Lib.hid (HF2.out.trans hf3 (U := []) (by simp) (by simp))
          obtain rfl : b = true := hb.2 HYES.out
          have HPT3 := Lib.hid (HPT.out.keep (F' := []) hf3 (by simp) (by simp))
          clear hb hf3
          have hG : Good (nds L) := by rw [HND.out]; exact HYES.out.good
          have HLS := Lib.hid (list_any ⟨#[]⟩ HPT3.out hG.srt (by simp) hG.small)
          rw [pfx_all] at HLS
          clear hG
          go_wp2_with fail
          (with_reducible refine HLS.out.mono ?_)
          rintro e w4 ⟨a4, c4, Y, hY, rfl, hown, hf4⟩
          have HF4 := Lib.hid (HF3.out.trans hf4 (U := []) (by simp) (by simp))
          have hlY : Y.length = k := by rw [← nds_len', hY, HND.out, nds_len', HN.out]
          rw [hlY]
          have HSN := Lib.hid (sameNodes_true a4 a k c4 cap Y X [p] [] w4 hown.nl (H.out.keep (F' := []) HF4.out (by simp) (by simp)) hlY.symm (by rw [hY, HND.out]) h63)
          clear hY hown hf4 hlY HLS
          go_wp2_with fail
          (with_reducible refine HSN.out.mono ?_)
          rintro e w5 ⟨rfl, hf5⟩
          have HF5 := Lib.hid (HF4.out.trans hf5 (U := []) (by simp) (by simp))
          clear hf5 HSN
          go_wp2
          go_ret
          exact ⟨rfl, HF5.out.below (by simp) (Nat.le_refl _)⟩
end Go.Proofs.Ytchhbmhnjknhaaa
