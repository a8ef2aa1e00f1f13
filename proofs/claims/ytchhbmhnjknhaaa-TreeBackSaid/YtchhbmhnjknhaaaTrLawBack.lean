/- TreeBack: the walk. (Written by wip/mk-trloop.py.) -/
import Derived.Test.YtchhbmhnjknhaaaTrPuts
import Derived.Test.YtchhbmhnjknhaaaTrLawLoads
import Derived.Deep.RegionHeld3
namespace Go.Proofs.Ytchhbmhnjknhaaa
open Go.RowKit

theorem get_key {L : List Nd} {s : ByteArray} (h : isN L s = true) : (getN L s).k = s ∧ getN L s ∈ L := by
  unfold getN
  rw [if_pos h]
  obtain ⟨d, e, k, g, hlt⟩ := isN_split h
  exact ⟨by rw [g]; exact k, by simp [hlt]⟩
theorem del_gone {L : List Nd} (hs : Srt L) {s : ByteArray} {want : Nat} (h : isN L s = true) (hv : (getN L s).ver = want) : delN L s want = 0 ∧ isN (delL L s want) s = false := by
  have hd : delN L s want = 0 := by
    unfold delN
    unfold getN at hv
    rw [if_pos h] at hv
    rw [if_pos h, if_neg (by rw [hv]; simp)]
  refine ⟨hd, ?_⟩
  unfold delL
  rw [if_pos hd]
  obtain ⟨d, e, k, g, hlt⟩ := isN_split h
  rw [e] at hs
  have hs2 : Srt (L.take (ixN L s) ++ L.drop (ixN L s + 1)) := hs.less
  cases his : isN (L.take (ixN L s) ++ L.drop (ixN L s + 1)) s with
  | false => rfl
  | true =>
    obtain ⟨x, hx, hxk⟩ := (isN_iff hs2).1 his
    unfold Srt at hs
    rw [List.pairwise_append, List.pairwise_cons] at hs
    rcases List.mem_append.1 hx with h1 | h1
    · have := kl_ne (hs.2.2 x h1 d (by simp)); rw [hxk, k] at this; exact absurd rfl this
    · have := kl_ne (hs.2.1.1 x h1); rw [hxk, k] at this; exact absurd rfl this

set_option maxRecDepth 100000 in
set_option maxHeartbeats 8000000 in
theorem treeBack_walk (a0 : Option Addr) (n cap0 : Nat) (ts : List Tc) (s : ByteArray) (w : World) (h : Tcs w a0 ts) (hn : n = ts.length) (h63 : n ≤ 9223372036854775807) (hs : s.size ≤ 9223372036854775807) :
    Calls Try.prog 6 #[.slice a0 n cap0, .string s] w fun e w' => e = .returned (.bool true) ∧ Below w.heap.size w w' := by
  have HAW := Lib.hid (awake6_any w)
  have H := Lib.hid h; clear h
  have HN := Lib.hid hn; clear hn
  go_enter Try.func6, Try.ntmps6
  go_wp2_with fail
  (with_reducible refine HAW.out.mono ?_)
  rintro e w1 ⟨rfl, hb⟩
  have HF1 := Lib.hid (Frm.ofBelow hb); clear hb HAW
  go_wp2_with fail
  refine (new_any w1 [] (by simp)).mono ?_
  rintro e w2 ⟨rfl, hd, hf, hz⟩
  obtain ⟨p, hp⟩ : ∃ p, p = w1.heap.size := ⟨_, rfl⟩
  rw [← hp] at hd ⊢
  have hpw : w.heap.size ≤ p := by rw [hp]; exact HF1.out.size
  have HR0 : Hid (PuRel w p n (.int .i64 (0 : Nat)) w2) := Lib.hid ⟨0, none, 0, [], [], Nat.zero_le _, rfl, Lib.hid ⟨hd.tree, hd.len, hd.ptrs, hd.nodes, hd.ok, hpw, hd.out, hd.away, hd.qout, hd.few, hd.lcap, hd.mcap, hd.nil⟩, Lib.hid Good.nil, Lib.hid (by simp [nds]), Lib.hid (HF1.out.trans hf (U := []) (by simp) (by simp))⟩
  clear hd hf hz hp HF1
  go_wp2
  go_loopw [23] (fun u wr => PuRel w p n u wr) (fun u _ => n - (intOf u).toNat)
  case atStart => exact HR0.out
  case round =>
    clear HR0
    obtain ⟨k, ta, tc, X, qs, hk, rfl, HP, HG, HV, HF⟩ := hrel
    by_cases hlt : k < n
    · obtain ⟨b, off, rfl, hin⟩ := H.out (by have := HN.out; omega)
      have hin2 := (hin k (by have := HN.out; omega)).keep HF.out
      generalize ts.getD k default = t at hin2
      obtain ⟨tk, tkey, va, vc, tv, tw, tow⟩ := t
      obtain ⟨d0, d1, d2, d3, d4, ok⟩ := hin2
      simp only at d0 d1 d2 d3 d4
      obtain ⟨vn, hvn⟩ : ∃ vn, vn = tv.length := ⟨_, rfl⟩
      rw [← hvn] at d2
      obtain ⟨g, hg⟩ : ∃ g, g = wr.heap.size := ⟨_, rfl⟩
      obtain ⟨w2, hw2⟩ : ∃ w2, w2 = wr.alloc (.cells #[.int .u8 (tk : Nat), .string tkey, .slice va vn vc, .int .u64 (tw : Nat), .int .u64 (tow : Nat)] 33) := ⟨_, rfl⟩
      have hW2 := Whole.made wr 33 #[.int .u8 (tk : Nat), .string tkey, .slice va vn vc, .int .u64 (tw : Nat), .int .u64 (tow : Nat)]
      rw [← hw2, ← hg] at hW2
      have hf2 : Frm [] wr w2 := by rw [hw2]; exact (Frm.refl _ _).alloc _
      have hgp : g ∉ [p] := by have := HP.out.tree.lt; simp; omega
      have hkey : tkey.size ≤ 9223372036854775807 := ok.key_le
      have hvn63 : vn ≤ 9223372036854775807 := by rw [hvn]; exact ok.val_b.2.1
      have HW2 := Lib.hid hw2
      have HGG := Lib.hid hg
      have HF2 := Lib.hid hf2
      have HKEY := Lib.hid (fun z => key_any tkey z hkey)
      have HPUT : Hid (∀ K z, Frm [] w2 z → K.size ≤ 9223372036854775807 → Calls Try.prog 13 #[.pointer (some ⟨p, 0, none⟩), .string K, .slice va vn vc, .int .u64 (tw : Nat), .int .u64 (tow : Nat)] z (PtAny z w.heap.size p [] (putNL (nds X) K tv tw tow) (.tuple #[.int .u64 (putNR (nds X) K tv tw : Nat), .int .i64 (putNC (nds X) K tv tw : Nat)]))) := Lib.hid fun K z hz hKs =>
        put_any K va vn vc tv tw tow (HP.out.keep (F' := []) (hf2.trans hz (U := []) (by simp) (by simp)) (by simp) (by simp)) HG.out (by simp) ((hf2.trans hz (U := []) (by simp) (by simp)).bytes ok.val_b (by simp)) hvn ok.val_nil hKs ok.want_lt ok.own_lt
      have g1 : ∀ z, Frm [p] w2 z → z.cell? ⟨g, 1, none⟩ = some (.string tkey) := fun z hz => ((hz.whole hW2 hgp).cell 1)
      have g2 : ∀ z, Frm [p] w2 z → z.cell? ⟨g, 2, none⟩ = some (.slice va vn vc) := fun z hz => ((hz.whole hW2 hgp).cell 2)
      have g3 : ∀ z, Frm [p] w2 z → z.cell? ⟨g, 3, none⟩ = some (.int .u64 (tw : Nat)) := fun z hz => ((hz.whole hW2 hgp).cell 3)
      have g4 : ∀ z, Frm [p] w2 z → z.cell? ⟨g, 4, none⟩ = some (.int .u64 (tow : Nat)) := fun z hz => ((hz.whole hW2 hgp).cell 4)
      have HLIN := Lib.hid hlt
      clear hin hw2 hg hW2 hf2 hgp hkey hvn ok
      by_cases hgo : k < 60 ∧ tkey.size < 200 ∧ vn < 5000
      · obtain ⟨h1, h2, h3⟩ := hgo
        have hk60 := Lib.hid h1
        go_wp2
        rw [← HW2.out, ← HGG.out]
        have hF20 : Frm [] w2 w2.drew := (Frm.refl _ _).drew
        refine wp_region_held_drew (S := fun w' => Frm [p] w2 w') (by kernel_rfl) (Frm.drew (Frm.refl _ _)) (fun hHeld => ?_)
        refine wpAnyH_take (i := 0) (oi := ⟨some 42, _, _, _, _, _⟩) (v := ?_) rfl (by kernel_rfl) (by kernel_rfl) (by kernel_rfl) (fun _ _ _ h => h) (Or.inl ⟨by rfl, ?_⟩) (by assumption) ?_
        rotate_left 1
        · (intro w hSw; (try dsimp only at hSw); go_simp; all_goals with_reducible rfl)
        try simp only [Act.put, List.setIfInBounds_toArray, List.set_cons_zero, List.set_cons_succ]
        refine wpAnyH_take (i := 1) (oi := ⟨some 43, _, _, _, _, _⟩) (v := ?_) rfl (by kernel_rfl) (by kernel_rfl) (by kernel_rfl) (fun _ _ _ h => h) (Or.inl ⟨by rfl, ?_⟩) (by assumption) ?_
        rotate_left 1
        · (intro w hSw; (try dsimp only at hSw); go_simp; all_goals with_reducible rfl)
        try simp only [Act.put, List.setIfInBounds_toArray, List.set_cons_zero, List.set_cons_succ]
        refine wpAnyH_take (i := 2) (oi := ⟨some 44, _, _, _, _, _⟩) (v := ?_) rfl (by kernel_rfl) (by kernel_rfl) (by kernel_rfl) (fun _ _ _ h => h) (Or.inl ⟨by rfl, ?_⟩) (by assumption) ?_
        rotate_left 1
        · (intro w hSw; (try dsimp only at hSw); go_simp; all_goals with_reducible rfl)
        try simp only [Act.put, List.setIfInBounds_toArray, List.set_cons_zero, List.set_cons_succ]
        refine wpAnyH_take (i := 4) (oi := ⟨some 46, _, _, _, _, _⟩) (v := ?_) rfl (by kernel_rfl) (by kernel_rfl) (by kernel_rfl) (fun _ _ _ h => h) (Or.inl ⟨by rfl, ?_⟩) (by assumption) ?_
        rotate_left 1
        · (intro w hSw; (try dsimp only at hSw); go_simp; all_goals with_reducible rfl)
        try simp only [Act.put, List.setIfInBounds_toArray, List.set_cons_zero, List.set_cons_succ]
        refine wpAnyH_take (i := 5) (oi := ⟨some 47, _, _, _, _, _⟩) (v := ?_) rfl (by kernel_rfl) (by kernel_rfl) (by kernel_rfl) (fun _ _ _ h => h) (Or.inl ⟨by rfl, ?_⟩) (by assumption) ?_
        rotate_left 1
        · (intro w hSw; (try dsimp only at hSw); go_simp; all_goals with_reducible rfl)
        try simp only [Act.put, List.setIfInBounds_toArray, List.set_cons_zero, List.set_cons_succ]
        refine wpAnyH_take (i := 6) (oi := ⟨some 48, _, _, _, _, _⟩) (v := ?_) rfl (by kernel_rfl) (by kernel_rfl) (by kernel_rfl) (fun _ _ _ h => h) (Or.inl ⟨by rfl, ?_⟩) (by assumption) ?_
        rotate_left 1
        · (intro w hSw; (try dsimp only at hSw); go_simp; all_goals with_reducible rfl)
        try simp only [Act.put, List.setIfInBounds_toArray, List.set_cons_zero, List.set_cons_succ]
        refine wpAnyH_take (i := 7) (oi := ⟨some 49, _, _, _, _, _⟩) (v := ?_) rfl (by kernel_rfl) (by kernel_rfl) (by kernel_rfl) (fun _ _ _ h => h) (Or.inl ⟨by rfl, ?_⟩) (by assumption) ?_
        rotate_left 1
        · (intro w hSw; (try dsimp only at hSw); go_simp; all_goals with_reducible rfl)
        try simp only [Act.put, List.setIfInBounds_toArray, List.set_cons_zero, List.set_cons_succ]
        refine wpAnyH_take (i := 8) (oi := ⟨some 50, _, _, _, _, _⟩) (v := ?_) rfl (by kernel_rfl) (by kernel_rfl) (by kernel_rfl) (fun _ _ _ h => h) (Or.inl ⟨by rfl, ?_⟩) (by assumption) ?_
        rotate_left 1
        · (intro w hSw; (try dsimp only at hSw); go_simp; all_goals with_reducible rfl)
        try simp only [Act.put, List.setIfInBounds_toArray, List.set_cons_zero, List.set_cons_succ]
        refine wpAnyH_take (i := 9) (oi := ⟨some 51, _, _, _, _, _⟩) (v := ?_) rfl (by kernel_rfl) (by kernel_rfl) (by kernel_rfl) (fun _ _ _ h => h) (Or.inl ⟨by rfl, ?_⟩) (by assumption) ?_
        rotate_left 1
        · (intro w hSw; (try dsimp only at hSw); go_simp; all_goals with_reducible rfl)
        try simp only [Act.put, List.setIfInBounds_toArray, List.set_cons_zero, List.set_cons_succ]
        refine wpAnyH_ready (rs := [3]) (by kernel_rfl) (by simp) ?_
        refine AllReadyH.cons (o := ⟨some 45, _, _, _, _, _⟩) rfl (fun K hK => ?_) AllReadyH.nil
        go_simp
        (go_at_call 12; (with_reducible refine (HKEY.out _).mono ?_); rintro e w3 ⟨Ky, rfl, hK64, hf3⟩; have hF23 : Frm [] w2 w3 := hF20.trans hf3 (by simp) (by simp); have HF23 := Lib.hid hF23; have hS3 : Frm [p] w2 w3 := hF23.weak (by simp); have HK64 := Lib.hid hK64; clear hf3 hK64)
        go_wp2_with fail
        refine hK.out _ _ (by assumption) (fun hHeld => ?_)
        clear hK K
        try simp only [Act.put, List.setIfInBounds_toArray, List.set_cons_zero, List.set_cons_succ]
        refine wpAnyH_ready (rs := [10]) (by kernel_rfl) (by simp) ?_
        refine AllReadyH.cons (o := ⟨some 52, _, _, _, _, _⟩) rfl (fun K hK => ?_) AllReadyH.nil
        go_simp
        (go_at_call 13; (with_reducible refine (HPUT.out Ky w3 HF23.out HK64.out).mono ?_); rintro e w4 ⟨rfl, hto4⟩; have HTO := Lib.hid hto4; have hS4 : Frm [p] w2 w4 := (by obtain ⟨_, _, _, _, _, _, h⟩ := hto4; exact HF23.out.trans h (by simp) (fun x hx => .inl hx)); clear hto4)
        go_wp2_with fail
        refine hK.out _ _ (by assumption) (fun hHeld => ?_)
        clear hK K
        try simp only [Act.put, List.setIfInBounds_toArray, List.set_cons_zero, List.set_cons_succ]
        refine wpAnyH_done (by kernel_rfl) ?_ _
        have HREL := Lib.hid (PuRel.step hpw HLIN.out hk60.out HG.out HV.out HF.out HF2.out HF23.out HTO.out)
        clear hS3 hS4 hF20
        go_wp2
        go_roundw
        case rel => exact HREL.out
        case measure => simp [intOf]; omega
      · have HREL := Lib.hid (PuRel.skip HLIN.out HP.out HG.out HV.out HF.out HF2.out)
        have hgo' : (¬ k < 60) ∨ (k < 60 ∧ ¬ tkey.size < 200) ∨ (k < 60 ∧ tkey.size < 200 ∧ ¬ vn < 5000) := by omega
        rw [HW2.out] at HREL
        clear hgo g1 g2 g3 g4
        rcases hgo' with h1 | ⟨h1, h2⟩ | ⟨h1, h2, h3⟩
        all_goals
          go_wp2
          go_roundw
          case rel => exact HREL.out
          case measure => simp [intOf]; omega
    · obtain rfl : k = n := by omega
      have hve : ∀ d ∈ nds X, d.ver ≠ 0 := fun d hd => by have := (HV.out d hd).1; omega
      have hlp : LoadsP (nds X) := HG.out.loads (by rw [nds_len']; exact HP.out.few) hve
      have HLP := Lib.hid hlp
      have HLS := Lib.hid (list_any ⟨#[]⟩ HP.out HG.out.srt (by simp) HG.out.small)
      rw [pfx_all] at HLS
      clear hve hlp
      go_wp2_with fail
      (with_reducible refine HLS.out.mono ?_)
      rintro e w3 ⟨al, cl, Y, hY, rfl, hown, hf3⟩
      obtain ⟨m, hm⟩ : ∃ m, m = Y.length := ⟨_, rfl⟩
      rw [← hm]
      have HM := Lib.hid hm
      have HY := Lib.hid hY
      have HO3 := Lib.hid hown
      have HF3 := Lib.hid (HF.out.trans hf3 (U := []) (by simp) (by simp))
      have HP3 := Lib.hid (HP.out.keep (F' := []) hf3 (by simp) (by simp))
      have hm63 : m ≤ 9223372036854775807 := by rw [hm, ← nds_len', hY, nds_len']; have := HP.out.few; omega
      have HLD := Lib.hid (load_any al m cl Y [p] w3 hown.nl hm hm63 (fun x hx => by simp at hx; subst hx; exact HP3.out.tree.lt))
      clear hm hY hown hf3 HLS
      go_wp2_with fail
      (with_reducible refine HLD.out.mono ?_)
      rintro e w4 (⟨hno, rfl, hf4⟩ | ⟨_, p2, a2, c2, L2, q2, rfl, hpt, hnd, hf4⟩)
      · exact absurd (by rw [HY.out]; exact HLP.out) hno
      have HF4 := Lib.hid (HF3.out.trans hf4 (U := []) (by simp) (by simp))
      have hp2 : w3.heap.size ≤ p2 := hpt.hp
      have hpl3 : p < w3.heap.size := HP3.out.tree.lt
      have HP4 := Lib.hid (HP3.out.keep (F' := [p2]) hf4 (by simp) (fun x hx => by simp at hx; subst hx; exact .inr hp2))
      have HU4 := Lib.hid hpt
      have HO4 := Lib.hid (HO3.out.nl.keep (F' := []) hf4 (by simp) (by simp))
      have hnd2 : nds L2 = nds X := by rw [hnd, HY.out]
      have HND2 := Lib.hid hnd2
      have HGU : Hid (Good (nds L2)) := Lib.hid (by rw [hnd2]; exact HG.out)
      have hpp : p ≠ p2 := by omega
      have HPP := Lib.hid hpp
      clear hpt hnd hf4 hp2 hpl3 hnd2 hpp HLD
      have HLS := Lib.hid (list_any ⟨#[]⟩ HU4.out HGU.out.srt (fun x hx => by simp at hx; subst hx; exact HP4.out.tree.lt) HGU.out.small)
      rw [pfx_all] at HLS
      go_wp2_with fail
      (with_reducible refine HLS.out.mono ?_)
      rintro e w5 ⟨a5, c5, Y5, hY5, rfl, hown5, hf5⟩
      have hm5 : Y5.length = m := by rw [← nds_len', hY5, HND2.out, ← HY.out, nds_len', HM.out]
      rw [hm5]
      have HSN := Lib.hid (sameNodes_true a5 al m c5 cl Y5 Y [p2, p] [] w5 hown5.nl (HO4.out.keep (F' := []) hf5 (by simp) (by simp)) hm5.symm (by rw [hY5, HND2.out, HY.out]) hm63)
      have HF5 := Lib.hid (HF4.out.trans hf5 (U := []) (by simp) (by simp))
      have HP5 := Lib.hid (HP4.out.keep (F' := [p2]) hf5 (by simp) (fun x hx => .inl hx))
      have HU5 := Lib.hid (HU4.out.keep (F' := [p]) hf5 (by simp) (fun x hx => .inl hx))
      clear hY5 hown5 hm5 hf5 HLS HO4 HP4 HU4 HF4
      go_wp2_with fail
      (with_reducible refine HSN.out.mono ?_)
      rintro e w6 ⟨rfl, hf6⟩
      have HF6 := Lib.hid (HF5.out.trans hf6 (U := []) (by simp) (by simp))
      have HP6 := Lib.hid (HP5.out.keep (F' := [p2]) hf6 (by simp) (fun x hx => .inl hx))
      have HU6 := Lib.hid (HU5.out.keep (F' := [p]) hf6 (by simp) (fun x hx => .inl hx))
      have HKEY := Lib.hid (key_any s w6 hs)
      clear hf6 HSN HF5 HP5 HU5
      go_wp2_with fail
      (with_reducible refine HKEY.out.mono ?_)
      rintro e w7 ⟨Ky, rfl, hK, hf7⟩
      have HF7 := Lib.hid (HF6.out.trans hf7 (U := []) (by simp) (by simp))
      have HP7 := Lib.hid (HP6.out.keep (F' := [p2]) hf7 (by simp) (fun x hx => .inl hx))
      have HU7 := Lib.hid (HU6.out.keep (F' := [p]) hf7 (by simp) (fun x hx => .inl hx))
      clear hf7 hK HKEY HF6 HP6 HU6
      have hGET := get_any Ky HP7.out HG.out.srt HG.out.small
      cases his : isN (nds X) Ky
      · rw [his] at hGET
        have HGET := Lib.hid hGET
        clear hGET his
        go_wp2_with fail
        (with_reducible refine HGET.out.mono ?_)
        rintro e w8 ⟨a8, c8, rfl, _, _, _, hf8⟩
        have HF8 := Lib.hid (HF7.out.trans hf8 (U := []) (by simp) (by simp))
        clear hf8 HGET
        go_wp2
        go_ret
        exact ⟨rfl, (HF8.out.alloc _).below (by simp) (Nat.le_refl _)⟩
      · rw [his] at hGET
        obtain ⟨hdk, hdm⟩ := get_key his
        obtain ⟨d, hd⟩ : ∃ d, d = getN (nds X) Ky := ⟨_, rfl⟩
        rw [← hd] at hGET hdk hdm
        have hdg := del_gone HG.out.srt his (by rw [← hd])
        have HGET := Lib.hid hGET
        have HD := Lib.hid hd
        have HIS := Lib.hid his
        have HDG := Lib.hid hdg
        have HVER : Hid (d.ver < 18446744073709551616) := Lib.hid (by have := HV.out d hdm; omega)
        clear hGET hd his hdg hdm
        obtain ⟨dk, dv, dver, down⟩ := d
        simp only at hdk
        subst hdk
        obtain ⟨dm, hdm⟩ : ∃ dm, dm = dv.length := ⟨_, rfl⟩
        have HDM := Lib.hid hdm
        clear hdm
        go_wp2_with fail
        (with_reducible refine HGET.out.mono ?_)
        rintro e w8 ⟨a8, c8, rfl, hb8, hn8, hnew8, hf8⟩
        simp only
        rw [← HDM.out]
        obtain ⟨g, hg⟩ : ∃ g, g = w8.heap.size := ⟨_, rfl⟩
        obtain ⟨w9, hw9⟩ : ∃ w9, w9 = w8.alloc (.cells #[.string dk, .slice a8 dm c8, .int .u64 (dver : Nat), .int .u64 (down : Nat)] 44) := ⟨_, rfl⟩
        have hW9 := Whole.made w8 44 #[.string dk, .slice a8 dm c8, .int .u64 (dver : Nat), .int .u64 (down : Nat)]
        rw [← hw9, ← hg] at hW9
        have hf89 : Frm [] w8 w9 := by rw [hw9]; exact (Frm.refl _ _).alloc _
        have hf79 := hf8.trans hf89 (U := []) (by simp) (by simp)
        have HF9 := Lib.hid (HF7.out.trans hf79 (U := []) (by simp) (by simp))
        have HP9 := Lib.hid (HP7.out.keep (F' := [p2]) hf79 (by simp) (fun x hx => .inl hx))
        have HU9 := Lib.hid (HU7.out.keep (F' := [p]) hf79 (by simp) (fun x hx => .inl hx))
        have HB9 := Lib.hid (hf89.bytes hb8 (by simp))
        have HW9 := Lib.hid hW9
        have HG9 := Lib.hid hg
        have HWW := Lib.hid hw9
        have hgp : g ∉ [p2] := by have := HU7.out.tree.lt; have := hf8.size; simp; omega
        have HGP := Lib.hid hgp
        have HNV : Hid (∀ q, a8 = some q → dv ≠ [] → q.block ≠ p2) := Lib.hid (fun q hq hne => by
          have h1 := hnew8 q hq
          have h2 := HU7.out.tree.lt
          omega)
        clear hb8 hn8 hf8 hw9 hW9 hf89 hf79 hg hgp hnew8 HGET
        have hDEL := del_any dk dver HU9.out HGU.out (fun x hx => by simp at hx; subst hx; exact HP9.out.tree.lt)
        rw [HND2.out, HDG.out.1] at hDEL
        have HDEL := Lib.hid hDEL
        clear hDEL
        go_wp2_with fail
        rw [← HWW.out, ← HG9.out]
        (with_reducible refine HDEL.out.mono ?_)
        rintro e w10 ⟨rfl, a10, c10, L10, q10, hd10, hn10, hf10⟩
        have hGd : Good (nds L10) := by rw [hn10]; exact HG.out.del dk dver
        have hG10 := get_any dk hd10 hGd.srt hGd.small
        rw [hn10, HDG.out.2] at hG10
        have HG10 := Lib.hid hG10
        have HF10 := Lib.hid (HF9.out.trans hf10 (U := []) (by simp) (fun x hx => by simp at hx; subst hx; exact .inr (Nat.le_trans HF3.out.size HU9.out.hp)))
        have HP10 := Lib.hid (HP9.out.keep (F' := []) hf10 (fun x hx => .inl hx) (by simp))
        have HW10 := Lib.hid (hf10.whole HW9.out HGP.out)
        have HB10 := Lib.hid (hf10.bytes' HB9.out (fun hne q hq hm => HNV.out q hq hne (by simpa using hm)))
        have y0 := HW10.out.cell 0
        simp at y0
        clear hd10 hn10 hf10 hGd hG10 HDEL
        go_wp2_with fail
        (with_reducible refine HG10.out.mono ?_)
        rintro e w11 ⟨a11, c11, rfl, _, _, _, hf11⟩
        obtain ⟨w12, hw12⟩ : ∃ w12, w12 = w11.alloc (.cells #[.string (getN (delL (nds X) dk dver) dk).k, .slice a11 (getN (delL (nds X) dk dver) dk).v.length c11, .int .u64 ((getN (delL (nds X) dk dver) dk).ver : Nat), .int .u64 ((getN (delL (nds X) dk dver) dk).own : Nat)] 44) := ⟨_, rfl⟩
        have hf12 : Frm [] w10 w12 := by rw [hw12]; exact hf11.alloc _
        have HF12 := Lib.hid (HF10.out.trans hf12 (U := []) (by simp) (by simp))
        have HP12 := Lib.hid (HP10.out.keep (F' := []) hf12 (by simp) (by simp))
        have HW12 := Lib.hid (hf12.whole HW10.out (by simp))
        have HB12 := Lib.hid (hf12.bytes HB10.out (by simp))
        have hG12 := get_any dk HP12.out HG.out.srt HG.out.small
        rw [HIS.out, ← HD.out] at hG12
        have HG12 := Lib.hid hG12
        have z0 := HW12.out.cell 0
        simp at z0
        rw [hw12] at z0
        have HWX := Lib.hid hw12
        clear hf11 hw12 hf12 hG12 HG10
        go_wp2_with fail
        rw [← HWX.out]
        (with_reducible refine HG12.out.mono ?_)
        rintro e w13 ⟨a13, c13, rfl, hb13, _, _, hf13⟩
        simp only
        rw [← HDM.out]
        obtain ⟨w14, hw14⟩ : ∃ w14, w14 = w13.alloc (.cells #[.string dk, .slice a13 dm c13, .int .u64 (dver : Nat), .int .u64 (down : Nat)] 44) := ⟨_, rfl⟩
        have hf134 : Frm [] w13 w14 := by rw [hw14]; exact (Frm.refl _ _).alloc _
        have hf14 := hf13.trans hf134 (U := []) (by simp) (by simp)
        have HF14 := Lib.hid (HF12.out.trans hf14 (U := []) (by simp) (by simp))
        have hW14 := hf14.whole HW12.out (by simp)
        have v0 := hW14.cell 0
        have v1 := hW14.cell 1
        have v2 := hW14.cell 2
        have v3 := hW14.cell 3
        simp at v0 v1 v2 v3
        have HSN := Lib.hid (sameNode_true dk a8 dm c8 a13 c13 dver down dv w14 (hf14.bytes HB12.out (by simp)) (hf134.bytes hb13 (by simp)) HDM.out)
        have HWY := Lib.hid hw14
        rw [hw14] at v0 v1 v2 v3
        clear hb13 hf13 hf134 hf14 hW14 hw14 HG12
        go_wp2_with fail
        rw [← HWY.out]
        (with_reducible refine HSN.out.mono ?_)
        rintro e w15 ⟨rfl, hf15⟩
        have HF15 := Lib.hid (HF14.out.trans hf15 (U := []) (by simp) (by simp))
        clear hf15 HSN
        go_wp2
        go_ret
        exact ⟨rfl, HF15.out.below (by simp) (Nat.le_refl _)⟩
end Go.Proofs.Ytchhbmhnjknhaaa
