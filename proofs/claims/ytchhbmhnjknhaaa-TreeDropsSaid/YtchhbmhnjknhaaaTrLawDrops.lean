/- TreeDrops: the walk. (Written by wip/mk-trloop.py.) -/
import Derived.Test.YtchhbmhnjknhaaaTrPuts
import Derived.Test.YtchhbmhnjknhaaaTrLawLoads
import Derived.Deep.RegionHeld3
namespace Go.Proofs.Ytchhbmhnjknhaaa
open Go.RowKit

/-- Two rows that a loop gathers beside the tree. -/
structure DrAt (w : World) (p : Nat) (aw : Option Addr) (cw : Nat) (W : List Nx) (ab : Option Addr) (cb : Nat) (Bg : List Nx) (ta : Option Addr) (tc : Nat) (X : List Nx) (qs : List Nat) (al : Option Addr) (Y : List Nx) (wr : World) : Prop where
  pt : Pt wr w.heap.size p (blk aw ++ blk ab) ta tc X qs
  wo : NOwn wr w.heap.size 44 (p :: blk ab) aw cw W
  bo : NOwn wr w.heap.size 44 (p :: blk aw) ab cb Bg
  nl : NL wr (p :: (blk aw ++ blk ab)) al Y
  frm : Frm [] w wr
theorem DrAt.keep {w : World} {p : Nat} {aw ab ta al : Option Addr} {cw cb tc : Nat} {W Bg X Y : List Nx} {qs : List Nat} {wr w' : World} (h : DrAt w p aw cw W ab cb Bg ta tc X qs al Y wr) (hf : Frm [] wr w') : DrAt w p aw cw W ab cb Bg ta tc X qs al Y w' :=
  ⟨h.pt.keep hf (by simp) (fun x hx => .inl hx), h.wo.keep hf (by simp) (fun x hx => .inl hx), h.bo.keep hf (by simp) (fun x hx => .inl hx), h.nl.keep hf (by simp) (fun x hx => .inl hx), h.frm.trans hf (by simp) (by simp)⟩
theorem DrAt.addW {w : World} {p : Nat} {aw ab ta al a' : Option Addr} {cw cb tc c' : Nat} {W Bg X Y : List Nx} {qs : List Nat} {wr w' : World} {x : Nx} {n : Nat} (h : DrAt w p aw cw W ab cb Bg ta tc X qs al Y wr) (hx : NxOk wr (p :: (blk aw ++ blk ab)) x) (hn : n = W.length)
    (ha : AppS wr w' w.heap.size 44 4 (.slice aw n cw) n 1 (nc W) (nc [x]) a' c') : DrAt w p a' c' (W ++ [x]) ab cb Bg ta tc X qs al Y w' ∧ n + 1 = (W ++ [x]).length ∧ Frm (blk aw) wr w' := by
  have hbl : ∀ g ∈ p :: blk ab, g < wr.heap.size := fun g hg => by
    rcases List.mem_cons.1 hg with rfl | h1
    · exact h.pt.tree.lt
    · exact (h.bo.blk_lt g h1).2
  obtain ⟨g1, g2, g3, g4⟩ := h.wo.app (Y := [x]) hn (fun y hy => by
    simp at hy; subst hy
    exact hx.keep (S := []) (Frm.refl _ _) (by simp) (fun z hz => .inl (by simp at hz ⊢; rcases hz with h | h | h <;> simp [h]))) rfl hbl ha
  have hwb := h.wo.blk_lt
  refine ⟨⟨h.pt.keep g2 (fun z hz => .inl (by simp [hz])) (fun z hz => ?_), g1, h.bo.keep g2 (fun z hz => .inl (by simp [hz])) (fun z hz => ?_), h.nl.keep g2 (fun z hz => .inl (by simp [hz])) (fun z hz => ?_), h.frm.trans g2 (by simp) (fun z hz => .inr (hwb z hz).1)⟩, g4, g2⟩
  · rcases List.mem_append.1 hz with h1 | h1
    · rcases g3 z h1 with h2 | h2
      · exact .inl (by simp [h2])
      · exact .inr h2
    · exact .inl (by simp [h1])
  · rcases List.mem_cons.1 hz with h1 | h1
    · exact .inl (by simp [h1])
    · rcases g3 z h1 with h2 | h2
      · exact .inl (by simp [h2])
      · exact .inr h2
  · rcases List.mem_cons.1 hz with h1 | h1
    · exact .inl (by simp [h1])
    · rcases List.mem_append.1 h1 with h1 | h1
      · rcases g3 z h1 with h2 | h2
        · exact .inl (by simp [h2])
        · exact .inr h2
      · exact .inl (by simp [h1])
theorem DrAt.addB {w : World} {p : Nat} {aw ab ta al a' : Option Addr} {cw cb tc c' : Nat} {W Bg X Y : List Nx} {qs : List Nat} {wr w' : World} {x : Nx} {n : Nat} (h : DrAt w p aw cw W ab cb Bg ta tc X qs al Y wr) (hx : NxOk wr (p :: (blk aw ++ blk ab)) x) (hn : n = Bg.length)
    (ha : AppS wr w' w.heap.size 44 4 (.slice ab n cb) n 1 (nc Bg) (nc [x]) a' c') : DrAt w p aw cw W a' c' (Bg ++ [x]) ta tc X qs al Y w' ∧ n + 1 = (Bg ++ [x]).length ∧ Frm (blk ab) wr w' := by
  have hbl : ∀ g ∈ p :: blk aw, g < wr.heap.size := fun g hg => by
    rcases List.mem_cons.1 hg with rfl | h1
    · exact h.pt.tree.lt
    · exact (h.wo.blk_lt g h1).2
  obtain ⟨g1, g2, g3, g4⟩ := h.bo.app (Y := [x]) hn (fun y hy => by
    simp at hy; subst hy
    exact hx.keep (S := []) (Frm.refl _ _) (by simp) (fun z hz => .inl (by simp at hz ⊢; rcases hz with h | h | h <;> simp [h]))) rfl hbl ha
  have hwb := h.bo.blk_lt
  refine ⟨⟨h.pt.keep g2 (fun z hz => .inl (by simp [hz])) (fun z hz => ?_), h.wo.keep g2 (fun z hz => .inl (by simp [hz])) (fun z hz => ?_), g1, h.nl.keep g2 (fun z hz => .inl (by simp [hz])) (fun z hz => ?_), h.frm.trans g2 (by simp) (fun z hz => .inr (hwb z hz).1)⟩, g4, g2⟩
  · rcases List.mem_append.1 hz with h1 | h1
    · exact .inl (by simp [h1])
    · rcases g3 z h1 with h2 | h2
      · exact .inl (by simp [h2])
      · exact .inr h2
  · rcases List.mem_cons.1 hz with h1 | h1
    · exact .inl (by simp [h1])
    · rcases g3 z h1 with h2 | h2
      · exact .inl (by simp [h2])
      · exact .inr h2
  · rcases List.mem_cons.1 hz with h1 | h1
    · exact .inl (by simp [h1])
    · rcases List.mem_append.1 h1 with h1 | h1
      · exact .inl (by simp [h1])
      · rcases g3 z h1 with h2 | h2
        · exact .inl (by simp [h2])
        · exact .inr h2
def DpRel (w : World) (p o : Nat) (P : ByteArray) (ta : Option Addr) (tc : Nat) (X : List Nx) (qs : List Nat) (al : Option Addr) (Y : List Nx) (u10 u11 u56 : Value) (wr : World) : Prop :=
  ∃ (k : Nat) (aw ab : Option Addr) (cw cb nw nb : Nat) (W Bg : List Nx), k ≤ Y.length ∧ u10 = .slice aw nw cw ∧ u11 = .slice ab nb cb ∧ u56 = .int .i64 (k : Nat) ∧ Hid (nw = W.length) ∧ Hid (nb = Bg.length) ∧ Hid (nds W = keepD o ((nds Y).take k)) ∧ Hid (nds Bg = ((nds Y).take k).filter (fun d => pfx P d.k)) ∧ Hid (DrAt w p aw cw W ab cb Bg ta tc X qs al Y wr)
theorem take_step {M : List Nd} {k : Nat} {d : Nd} (h : M[k]? = some d) : M.take (k + 1) = M.take k ++ [d] := by rw [List.take_add_one, h]; rfl

set_option maxRecDepth 100000 in
set_option maxHeartbeats 16000000 in
theorem treeDrops_main (a0 : Option Addr) (n cap0 : Nat) (ts : List Tc) (o : Nat) (P : ByteArray) (w : World) (h : Tcs w a0 ts) (hn : n = ts.length) (h63 : n ≤ 9223372036854775807) (hP : P.size ≤ 10) :
    Calls Try.prog 9 #[.slice a0 n cap0, .int .u64 (o : Nat), .string P] w fun e w' => e = .returned (.bool true) ∧ Below w.heap.size w w' := by
  have HAW := Lib.hid (awake6_any w)
  have H := Lib.hid h; clear h
  have HN := Lib.hid hn; clear hn
  have hP' : ¬ 10 < P.size := by omega
  go_enter Try.func9, Try.ntmps9
  go_wp2_with fail
  (with_reducible refine HAW.out.mono ?_)
  rintro e w1 ⟨rfl, hb⟩
  have HF1 := Lib.hid (Frm.ofBelow hb); clear hb HAW
  go_wp2_with fail
  refine (new_any w1 [] (by simp)).mono ?_
  rintro e w2 ⟨rfl, hd, hf, hz⟩
  obtain ⟨p, hp⟩ : ∃ p, p = w1.heap.size := ⟨_, rfl⟩
  rw [← hp] at hd ⊢
  have hpw : w.heap.size ≤ p := by rw [hp]; exact HF1.out.size
  have HR0 : Hid (PuRel w p n (.int .i64 (0 : Nat)) w2) := Lib.hid ⟨0, none, 0, [], [], Nat.zero_le _, rfl, Lib.hid ⟨hd.tree, hd.len, hd.ptrs, hd.nodes, hd.ok, hpw, hd.out, hd.away, hd.qout, hd.few, hd.lcap, hd.mcap, hd.nil⟩, Lib.hid Good.nil, Lib.hid (by simp [nds]), Lib.hid (HF1.out.trans hf (U := []) (by simp) (by simp))⟩
  clear hd hf hz hp HF1
  go_wp2
  go_loopw [22] (fun u wr => PuRel w p n u wr) (fun u _ => n - (intOf u).toNat)
  case atStart => exact HR0.out
  case round =>
    clear HR0
    obtain ⟨k, ta, tc, X, qs, hk, rfl, HP, HG, HV, HF⟩ := hrel
    by_cases hlt : k < n
    · obtain ⟨b, off, rfl, hin⟩ := H.out (by have := HN.out; omega)
      have hin2 := (hin k (by have := HN.out; omega)).keep HF.out
      generalize ts.getD k default = t at hin2
      obtain ⟨tk, tkey, va, vc, tv, tw, tow⟩ := t
      obtain ⟨d0, d1, d2, d3, d4, ok⟩ := hin2
      simp only at d0 d1 d2 d3 d4
      obtain ⟨vn, hvn⟩ : ∃ vn, vn = tv.length := ⟨_, rfl⟩
      rw [← hvn] at d2
      obtain ⟨g, hg⟩ : ∃ g, g = wr.heap.size := ⟨_, rfl⟩
      obtain ⟨w2, hw2⟩ : ∃ w2, w2 = wr.alloc (.cells #[.int .u8 (tk : Nat), .string tkey, .slice va vn vc, .int .u64 (tw : Nat), .int .u64 (tow : Nat)] 33) := ⟨_, rfl⟩
      have hW2 := Whole.made wr 33 #[.int .u8 (tk : Nat), .string tkey, .slice va vn vc, .int .u64 (tw : Nat), .int .u64 (tow : Nat)]
      rw [← hw2, ← hg] at hW2
      have hf2 : Frm [] wr w2 := by rw [hw2]; exact (Frm.refl _ _).alloc _
      have hgp : g ∉ [p] := by have := HP.out.tree.lt; simp; omega
      have hkey : tkey.size ≤ 9223372036854775807 := ok.key_le
      have hvn63 : vn ≤ 9223372036854775807 := by rw [hvn]; exact ok.val_b.2.1
      have HW2 := Lib.hid hw2
      have HGG := Lib.hid hg
      have HF2 := Lib.hid hf2
      have HKEY := Lib.hid (fun z => key_any tkey z hkey)
      have HPUT : Hid (∀ K z, Frm [] w2 z → K.size ≤ 9223372036854775807 → Calls Try.prog 13 #[.pointer (some ⟨p, 0, none⟩), .string K, .slice va vn vc, .int .u64 (tw : Nat), .int .u64 (tow : Nat)] z (PtAny z w.heap.size p [] (putNL (nds X) K tv tw tow) (.tuple #[.int .u64 (putNR (nds X) K tv tw : Nat), .int .i64 (putNC (nds X) K tv tw : Nat)]))) := Lib.hid fun K z hz hKs =>
        put_any K va vn vc tv tw tow (HP.out.keep (F' := []) (hf2.trans hz (U := []) (by simp) (by simp)) (by simp) (by simp)) HG.out (by simp) ((hf2.trans hz (U := []) (by simp) (by simp)).bytes ok.val_b (by simp)) hvn ok.val_nil hKs ok.want_lt ok.own_lt
      have g1 : ∀ z, Frm [p] w2 z → z.cell? ⟨g, 1, none⟩ = some (.string tkey) := fun z hz => ((hz.whole hW2 hgp).cell 1)
      have g2 : ∀ z, Frm [p] w2 z → z.cell? ⟨g, 2, none⟩ = some (.slice va vn vc) := fun z hz => ((hz.whole hW2 hgp).cell 2)
      have g3 : ∀ z, Frm [p] w2 z → z.cell? ⟨g, 3, none⟩ = some (.int .u64 (tw : Nat)) := fun z hz => ((hz.whole hW2 hgp).cell 3)
      have g4 : ∀ z, Frm [p] w2 z → z.cell? ⟨g, 4, none⟩ = some (.int .u64 (tow : Nat)) := fun z hz => ((hz.whole hW2 hgp).cell 4)
      have HLIN := Lib.hid hlt
      clear hin hw2 hg hW2 hf2 hgp hkey hvn ok
      by_cases hgo : k < 60 ∧ tkey.size < 200 ∧ vn < 5000
      · obtain ⟨h1, h2, h3⟩ := hgo
        have hk60 := Lib.hid h1
        go_wp2
        rw [← HW2.out, ← HGG.out]
        have hF20 : Frm [] w2 w2.drew := (Frm.refl _ _).drew
        refine wp_region_held_drew (S := fun w' => Frm [p] w2 w') (by kernel_rfl) (Frm.drew (Frm.refl _ _)) (fun hHeld => ?_)
        refine wpAnyH_take (i := 0) (oi := ⟨some 41, _, _, _, _, _⟩) (v := ?_) rfl (by kernel_rfl) (by kernel_rfl) (by kernel_rfl) (fun _ _ _ h => h) (Or.inl ⟨by rfl, ?_⟩) (by assumption) ?_
        rotate_left 1
        · (intro w hSw; (try dsimp only at hSw); go_simp; all_goals with_reducible rfl)
        try simp only [Act.put, List.setIfInBounds_toArray, List.set_cons_zero, List.set_cons_succ]
        refine wpAnyH_take (i := 1) (oi := ⟨some 42, _, _, _, _, _⟩) (v := ?_) rfl (by kernel_rfl) (by kernel_rfl) (by kernel_rfl) (fun _ _ _ h => h) (Or.inl ⟨by rfl, ?_⟩) (by assumption) ?_
        rotate_left 1
        · (intro w hSw; (try dsimp only at hSw); go_simp; all_goals with_reducible rfl)
        try simp only [Act.put, List.setIfInBounds_toArray, List.set_cons_zero, List.set_cons_succ]
        refine wpAnyH_take (i := 2) (oi := ⟨some 43, _, _, _, _, _⟩) (v := ?_) rfl (by kernel_rfl) (by kernel_rfl) (by kernel_rfl) (fun _ _ _ h => h) (Or.inl ⟨by rfl, ?_⟩) (by assumption) ?_
        rotate_left 1
        · (intro w hSw; (try dsimp only at hSw); go_simp; all_goals with_reducible rfl)
        try simp only [Act.put, List.setIfInBounds_toArray, List.set_cons_zero, List.set_cons_succ]
        refine wpAnyH_take (i := 4) (oi := ⟨some 45, _, _, _, _, _⟩) (v := ?_) rfl (by kernel_rfl) (by kernel_rfl) (by kernel_rfl) (fun _ _ _ h => h) (Or.inl ⟨by rfl, ?_⟩) (by assumption) ?_
        rotate_left 1
        · (intro w hSw; (try dsimp only at hSw); go_simp; all_goals with_reducible rfl)
        try simp only [Act.put, List.setIfInBounds_toArray, List.set_cons_zero, List.set_cons_succ]
        refine wpAnyH_take (i := 5) (oi := ⟨some 46, _, _, _, _, _⟩) (v := ?_) rfl (by kernel_rfl) (by kernel_rfl) (by kernel_rfl) (fun _ _ _ h => h) (Or.inl ⟨by rfl, ?_⟩) (by assumption) ?_
        rotate_left 1
        · (intro w hSw; (try dsimp only at hSw); go_simp; all_goals with_reducible rfl)
        try simp only [Act.put, List.setIfInBounds_toArray, List.set_cons_zero, List.set_cons_succ]
        refine wpAnyH_take (i := 6) (oi := ⟨some 47, _, _, _, _, _⟩) (v := ?_) rfl (by kernel_rfl) (by kernel_rfl) (by kernel_rfl) (fun _ _ _ h => h) (Or.inl ⟨by rfl, ?_⟩) (by assumption) ?_
        rotate_left 1
        · (intro w hSw; (try dsimp only at hSw); go_simp; all_goals with_reducible rfl)
        try simp only [Act.put, List.setIfInBounds_toArray, List.set_cons_zero, List.set_cons_succ]
        refine wpAnyH_take (i := 7) (oi := ⟨some 48, _, _, _, _, _⟩) (v := ?_) rfl (by kernel_rfl) (by kernel_rfl) (by kernel_rfl) (fun _ _ _ h => h) (Or.inl ⟨by rfl, ?_⟩) (by assumption) ?_
        rotate_left 1
        · (intro w hSw; (try dsimp only at hSw); go_simp; all_goals with_reducible rfl)
        try simp only [Act.put, List.setIfInBounds_toArray, List.set_cons_zero, List.set_cons_succ]
        refine wpAnyH_take (i := 8) (oi := ⟨some 49, _, _, _, _, _⟩) (v := ?_) rfl (by kernel_rfl) (by kernel_rfl) (by kernel_rfl) (fun _ _ _ h => h) (Or.inl ⟨by rfl, ?_⟩) (by assumption) ?_
        rotate_left 1
        · (intro w hSw; (try dsimp only at hSw); go_simp; all_goals with_reducible rfl)
        try simp only [Act.put, List.setIfInBounds_toArray, List.set_cons_zero, List.set_cons_succ]
        refine wpAnyH_take (i := 9) (oi := ⟨some 50, _, _, _, _, _⟩) (v := ?_) rfl (by kernel_rfl) (by kernel_rfl) (by kernel_rfl) (fun _ _ _ h => h) (Or.inl ⟨by rfl, ?_⟩) (by assumption) ?_
        rotate_left 1
        · (intro w hSw; (try dsimp only at hSw); go_simp; all_goals with_reducible rfl)
        try simp only [Act.put, List.setIfInBounds_toArray, List.set_cons_zero, List.set_cons_succ]
        refine wpAnyH_ready (rs := [3]) (by kernel_rfl) (by simp) ?_
        refine AllReadyH.cons (o := ⟨some 44, _, _, _, _, _⟩) rfl (fun K hK => ?_) AllReadyH.nil
        go_simp
        (go_at_call 12; (with_reducible refine (HKEY.out _).mono ?_); rintro e w3 ⟨Ky, rfl, hK64, hf3⟩; have hF23 : Frm [] w2 w3 := hF20.trans hf3 (by simp) (by simp); have HF23 := Lib.hid hF23; have hS3 : Frm [p] w2 w3 := hF23.weak (by simp); have HK64 := Lib.hid hK64; clear hf3 hK64)
        go_wp2_with fail
        refine hK.out _ _ (by assumption) (fun hHeld => ?_)
        clear hK K
        try simp only [Act.put, List.setIfInBounds_toArray, List.set_cons_zero, List.set_cons_succ]
        refine wpAnyH_ready (rs := [10]) (by kernel_rfl) (by simp) ?_
        refine AllReadyH.cons (o := ⟨some 51, _, _, _, _, _⟩) rfl (fun K hK => ?_) AllReadyH.nil
        go_simp
        (go_at_call 13; (with_reducible refine (HPUT.out Ky w3 HF23.out HK64.out).mono ?_); rintro e w4 ⟨rfl, hto4⟩; have HTO := Lib.hid hto4; have hS4 : Frm [p] w2 w4 := (by obtain ⟨_, _, _, _, _, _, h⟩ := hto4; exact HF23.out.trans h (by simp) (fun x hx => .inl hx)); clear hto4)
        go_wp2_with fail
        refine hK.out _ _ (by assumption) (fun hHeld => ?_)
        clear hK K
        try simp only [Act.put, List.setIfInBounds_toArray, List.set_cons_zero, List.set_cons_succ]
        refine wpAnyH_done (by kernel_rfl) ?_ _
        have HREL := Lib.hid (PuRel.step hpw HLIN.out hk60.out HG.out HV.out HF.out HF2.out HF23.out HTO.out)
        clear hS3 hS4 hF20
        go_wp2
        go_roundw
        case rel => exact HREL.out
        case measure => simp [intOf]; omega
      · have HREL := Lib.hid (PuRel.skip HLIN.out HP.out HG.out HV.out HF.out HF2.out)
        have hgo' : (¬ k < 60) ∨ (k < 60 ∧ ¬ tkey.size < 200) ∨ (k < 60 ∧ tkey.size < 200 ∧ ¬ vn < 5000) := by omega
        rw [HW2.out] at HREL
        clear hgo g1 g2 g3 g4
        rcases hgo' with h1 | ⟨h1, h2⟩ | ⟨h1, h2, h3⟩
        all_goals
          go_wp2
          go_roundw
          case rel => exact HREL.out
          case measure => simp [intOf]; omega
    · obtain rfl : k = n := by omega
      obtain ⟨i0, hi, hz0, hz1, hz2⟩ := info_parts Try.info44
      have HI := Lib.hid hi; clear hi
      have HZ0 := Lib.hid hz0; clear hz0
      have HZ1 := Lib.hid hz1; clear hz1
      have HZ2 := Lib.hid hz2; clear hz2
      have HLS := Lib.hid (list_any ⟨#[]⟩ HP.out HG.out.srt (by simp) HG.out.small)
      rw [pfx_all] at HLS
      go_wp2_with fail
      (with_reducible refine HLS.out.mono ?_)
      rintro e w3 ⟨al, cl, Y, hY, rfl, hown, hf3⟩
      obtain ⟨m, hm⟩ : ∃ m, m = Y.length := ⟨_, rfl⟩
      rw [← hm]
      have HM := Lib.hid hm
      have HYN := Lib.hid hY
      have hm256 : m ≤ 256 := by rw [hm, ← nds_len', hY, nds_len']; exact HP.out.few
      have HRD : Hid (DpRel w p o P ta tc X qs al Y (.slice none 0 0) (.slice none 0 0) (.int .i64 (0 : Nat)) w3) := Lib.hid ⟨0, none, none, 0, 0, 0, 0, [], [], Nat.zero_le _, rfl, rfl, rfl, Lib.hid rfl, Lib.hid rfl, Lib.hid (by simp [nds, keepD]), Lib.hid (by simp [nds]), Lib.hid ⟨HP.out.keep hf3 (by simp) (by simp), NOwn.nil _ _ _ _, NOwn.nil _ _ _ _, hown.nl, HF.out.trans hf3 (by simp) (by simp)⟩⟩
      clear hm hY hown hf3 HLS hk hlt
      go_wp2
      go_loopw [10, 11, 56] (fun u10 u11 u56 wr => DpRel w p o P ta tc X qs al Y u10 u11 u56 wr) (fun _ _ u56 _ => m - (intOf u56).toNat)
      case atStart => exact HRD.out
      case round =>
        clear HRD
        obtain ⟨k, aw, ab, cw, cb, nw, nb, W, Bg, hk, rfl, rfl, rfl, Hnw, Hnb, HWN, HBN, D⟩ := hrel
        rw [← HM.out] at hk
        by_cases hlt : k < m
        · have hkY : k < Y.length := by have := HM.out; omega
          obtain ⟨b, off, rfl, p0, p1, p2, p3, ok⟩ := D.out.nl.at hkY
          have hMk : (nds Y)[k]? = some (Y.getD k default).t := by rw [← nds_getD]; simp [hkY, nds_len']
          have hmem : Y.getD k default ∈ Y := by simp [hkY]
          have hwl : nw ≤ 256 := by
            rw [Hnw.out, ← nds_len', HWN.out]
            have h1 := List.length_filter_le (fun d : Nd => decide (o = 0) || decide (d.own ≠ o)) ((nds Y).take k)
            rw [List.length_take] at h1
            unfold keepD; omega
          have hbl : nb ≤ 256 := by
            rw [Hnb.out, ← nds_len', HBN.out]
            have h1 := List.length_filter_le (fun d : Nd => pfx P d.k) ((nds Y).take k)
            rw [List.length_take] at h1
            omega
          have hfitnw : nw + 1 ≤ 1000000000 := by omega
          have hfitnb : nb + 1 ≤ 1000000000 := by omega
          obtain ⟨x, hx⟩ : ∃ x, x = Y.getD k default := ⟨_, rfl⟩
          rw [← hx] at p0 p1 p2 p3 ok hMk hmem
          obtain ⟨⟨xk, xv, xver, xown⟩, xa, xc⟩ := x
          simp only at p0 p1 p2 p3 hMk
          obtain ⟨xm, hxm⟩ : ∃ xm, xm = xv.length := ⟨_, rfl⟩
          rw [← hxm] at p1
          have HXM := Lib.hid hxm
          have HMK := Lib.hid (take_step hMk)
          have HMEM := Lib.hid hmem
          obtain ⟨g, hg⟩ : ∃ g, g = wr.heap.size := ⟨_, rfl⟩
          obtain ⟨w2, hw2⟩ : ∃ w2, w2 = wr.alloc (.cells #[.string xk, .slice xa xm xc, .int .u64 (xver : Nat), .int .u64 (xown : Nat)] 44) := ⟨_, rfl⟩
          have hW2 := Whole.made wr 44 #[.string xk, .slice xa xm xc, .int .u64 (xver : Nat), .int .u64 (xown : Nat)]
          rw [← hw2, ← hg] at hW2
          have hf2 : Frm [] wr w2 := by rw [hw2]; exact (Frm.refl _ _).alloc _
          have D2 := Lib.hid (D.out.keep hf2)
          have HW2 := Lib.hid hw2
          have HGG := Lib.hid hg
          have BXw2 := Lib.hid hW2
          have HPX := Lib.hid (prefix_any xk P w2)
          have HLT := Lib.hid hlt
          have HKY := Lib.hid hkY
          clear hx hMk hmem hxm hw2 hg hW2 hf2 ok hwl hbl hkY
          cases hp : pfx P xk
          · rw [hp] at HPX
            have HP := Lib.hid hp
            clear hp
            go_wp2_with fail
            rw [← HW2.out, ← HGG.out]
            (with_reducible refine HPX.out.mono ?_)
            rintro e w' ⟨rfl, rfl⟩
            have c0 := BXw2.out.cell 0
            have c1 := BXw2.out.cell 1
            have c2 := BXw2.out.cell 2
            have c3 := BXw2.out.cell 3
            simp at c0 c1 c2 c3
            have hcs : ((o : Int) == 0) = true ∨ (((o : Int) == 0) = false ∧ ((xown : Int) != (o : Int)) = true) ∨ (((o : Int) == 0) = false ∧ ((xown : Int) != (o : Int)) = false) := by
              cases ((o : Int) == 0) <;> cases ((xown : Int) != (o : Int)) <;> simp
            rcases hcs with h3 | ⟨h3, h4⟩ | ⟨h3, h4⟩
            · have hkp : (decide (o = 0) || decide (xown ≠ o)) = true := by rw [beq_iff_eq] at h3; simp; omega
              have HKP := Lib.hid hkp
              clear hkp
              obtain ⟨w2l, hw2l⟩ : ∃ z, z = w2.alloc (.cells #[.string xk, .slice xa xm xc, .int .u64 (xver : Nat), .int .u64 (xown : Nat)] 44) := ⟨_, rfl⟩
              have hfw2l : Frm [] w2 w2l := by rw [hw2l]; exact (Frm.refl _ _).alloc _
              have hvw2l : ValsAt w2l (some ⟨w2.heap.size, 0, none⟩) (nc [(⟨⟨xk, xv, xver, xown⟩, xa, xc⟩ : Nx)]) := by rw [hw2l, HXM.out]; exact nvals_one w2 (⟨⟨xk, xv, xver, xown⟩, xa, xc⟩ : Nx) _
              have hdw2l := D2.out.keep hfw2l
              have hownw2l := hdw2l.wo.own
              rw [← Hnw.out] at hownw2l
              have OWNw2 := Lib.hid hownw2l
              have VALw2 := Lib.hid hvw2l
              have DDw2 := Lib.hid hdw2l
              have WWw2 := Lib.hid hw2l
              have BXLw2 := Lib.hid (hfw2l.whole BXw2.out (by simp))
              clear hw2l hfw2l hvw2l hdw2l hownw2l
              go_wp2_with (at_builtin; rw [← WWw2.out]; refine wpList_appS (by rfl) (.tmp 76) (.tmp 78) 27 rfl w.heap.size 44 i0 (.agg #[.string ⟨#[]⟩, .slice none 0 0, .int .u64 0, .int .u64 0]) 4 56 Try.underlying27 HI.out HZ0.out rfl (by decide) HZ1.out HZ2.out (by decide) (.slice aw nw cw) nw _ rfl OWNw2.out _ 1 1 _ rfl VALw2.out rfl (nc_one _) (fun h => by cases h) hfitnw DDw2.out.frm.size ?_)
              intro aww6 cww6 w6 happ
              obtain ⟨hdw6, hnw6, hfw6⟩ := DDw2.out.addW (DDw2.out.nl.ok _ HMEM.out) Hnw.out happ
              have hgn : g ∉ blk aw := fun hm => by have h1 := (D.out.wo.blk_lt g hm).2; have h2 := HGG.out; omega
              have BXw6 := Lib.hid (hfw6.whole BXLw2.out hgn)
              have D6 := Lib.hid hdw6
              have HLw6 := Lib.hid hnw6
              clear happ hdw6 hnw6 hfw6 hgn
              have HREL : Hid (DpRel w p o P ta tc X qs (some ⟨b, off, none⟩) Y (.slice aww6 (nw + 1) cww6) (.slice ab nb cb) (.int .i64 ((k + 1 : Nat) : Int)) w6) := Lib.hid ⟨k + 1, aww6, ab, cww6, cb, (nw + 1), nb, (W ++ [(⟨⟨xk, xv, xver, xown⟩, xa, xc⟩ : Nx)]), Bg, HKY.out, rfl, rfl, rfl, Lib.hid HLw6.out, Lib.hid Hnb.out, Lib.hid (by unfold keepD; rw [HMK.out, List.filter_append]; have e := HWN.out; unfold keepD at e; rw [← e, List.filter_cons, if_pos HKP.out]; simp [nds]), Lib.hid (by rw [HMK.out, List.filter_append, ← HBN.out, List.filter_cons, if_neg (by rw [HP.out]; simp)]; simp), D6⟩
              go_wp2
              go_roundw
              case rel => exact HREL.out
              case measure => simp [intOf]; omega
            · have hkp : (decide (o = 0) || decide (xown ≠ o)) = true := by rw [bne_iff_ne] at h4; simp; omega
              have HKP := Lib.hid hkp
              clear hkp
              obtain ⟨w2l, hw2l⟩ : ∃ z, z = w2.alloc (.cells #[.string xk, .slice xa xm xc, .int .u64 (xver : Nat), .int .u64 (xown : Nat)] 44) := ⟨_, rfl⟩
              have hfw2l : Frm [] w2 w2l := by rw [hw2l]; exact (Frm.refl _ _).alloc _
              have hvw2l : ValsAt w2l (some ⟨w2.heap.size, 0, none⟩) (nc [(⟨⟨xk, xv, xver, xown⟩, xa, xc⟩ : Nx)]) := by rw [hw2l, HXM.out]; exact nvals_one w2 (⟨⟨xk, xv, xver, xown⟩, xa, xc⟩ : Nx) _
              have hdw2l := D2.out.keep hfw2l
              have hownw2l := hdw2l.wo.own
              rw [← Hnw.out] at hownw2l
              have OWNw2 := Lib.hid hownw2l
              have VALw2 := Lib.hid hvw2l
              have DDw2 := Lib.hid hdw2l
              have WWw2 := Lib.hid hw2l
              have BXLw2 := Lib.hid (hfw2l.whole BXw2.out (by simp))
              clear hw2l hfw2l hvw2l hdw2l hownw2l
              go_wp2_with (at_builtin; rw [← WWw2.out]; refine wpList_appS (by rfl) (.tmp 76) (.tmp 78) 27 rfl w.heap.size 44 i0 (.agg #[.string ⟨#[]⟩, .slice none 0 0, .int .u64 0, .int .u64 0]) 4 56 Try.underlying27 HI.out HZ0.out rfl (by decide) HZ1.out HZ2.out (by decide) (.slice aw nw cw) nw _ rfl OWNw2.out _ 1 1 _ rfl VALw2.out rfl (nc_one _) (fun h => by cases h) hfitnw DDw2.out.frm.size ?_)
              intro aww6 cww6 w6 happ
              obtain ⟨hdw6, hnw6, hfw6⟩ := DDw2.out.addW (DDw2.out.nl.ok _ HMEM.out) Hnw.out happ
              have hgn : g ∉ blk aw := fun hm => by have h1 := (D.out.wo.blk_lt g hm).2; have h2 := HGG.out; omega
              have BXw6 := Lib.hid (hfw6.whole BXLw2.out hgn)
              have D6 := Lib.hid hdw6
              have HLw6 := Lib.hid hnw6
              clear happ hdw6 hnw6 hfw6 hgn
              have HREL : Hid (DpRel w p o P ta tc X qs (some ⟨b, off, none⟩) Y (.slice aww6 (nw + 1) cww6) (.slice ab nb cb) (.int .i64 ((k + 1 : Nat) : Int)) w6) := Lib.hid ⟨k + 1, aww6, ab, cww6, cb, (nw + 1), nb, (W ++ [(⟨⟨xk, xv, xver, xown⟩, xa, xc⟩ : Nx)]), Bg, HKY.out, rfl, rfl, rfl, Lib.hid HLw6.out, Lib.hid Hnb.out, Lib.hid (by unfold keepD; rw [HMK.out, List.filter_append]; have e := HWN.out; unfold keepD at e; rw [← e, List.filter_cons, if_pos HKP.out]; simp [nds]), Lib.hid (by rw [HMK.out, List.filter_append, ← HBN.out, List.filter_cons, if_neg (by rw [HP.out]; simp)]; simp), D6⟩
              go_wp2
              go_roundw
              case rel => exact HREL.out
              case measure => simp [intOf]; omega
            · have hkp : (decide (o = 0) || decide (xown ≠ o)) = false := by rw [beq_eq_false_iff_ne] at h3; rw [bne_eq_false_iff_eq] at h4; simp; omega
              have HKP := Lib.hid hkp
              clear hkp
              have HREL : Hid (DpRel w p o P ta tc X qs (some ⟨b, off, none⟩) Y (.slice aw nw cw) (.slice ab nb cb) (.int .i64 ((k + 1 : Nat) : Int)) w2) := Lib.hid ⟨k + 1, aw, ab, cw, cb, nw, nb, W, Bg, HKY.out, rfl, rfl, rfl, Lib.hid Hnw.out, Lib.hid Hnb.out, Lib.hid (by unfold keepD; rw [HMK.out, List.filter_append]; have e := HWN.out; unfold keepD at e; rw [← e, List.filter_cons, if_neg (by rw [HKP.out]; simp)]; simp), Lib.hid (by rw [HMK.out, List.filter_append, ← HBN.out, List.filter_cons, if_neg (by rw [HP.out]; simp)]; simp), D2⟩
              go_wp2
              go_roundw
              case rel => exact HREL.out
              case measure => simp [intOf]; omega
          · rw [hp] at HPX
            have HP := Lib.hid hp
            clear hp
            go_wp2_with fail
            rw [← HW2.out, ← HGG.out]
            (with_reducible refine HPX.out.mono ?_)
            rintro e w' ⟨rfl, rfl⟩
            have c0 := BXw2.out.cell 0
            have c1 := BXw2.out.cell 1
            have c2 := BXw2.out.cell 2
            have c3 := BXw2.out.cell 3
            simp at c0 c1 c2 c3
            obtain ⟨w2l, hw2l⟩ : ∃ z, z = w2.alloc (.cells #[.string xk, .slice xa xm xc, .int .u64 (xver : Nat), .int .u64 (xown : Nat)] 44) := ⟨_, rfl⟩
            have hfw2l : Frm [] w2 w2l := by rw [hw2l]; exact (Frm.refl _ _).alloc _
            have hvw2l : ValsAt w2l (some ⟨w2.heap.size, 0, none⟩) (nc [(⟨⟨xk, xv, xver, xown⟩, xa, xc⟩ : Nx)]) := by rw [hw2l, HXM.out]; exact nvals_one w2 (⟨⟨xk, xv, xver, xown⟩, xa, xc⟩ : Nx) _
            have hdw2l := D2.out.keep hfw2l
            have hownw2l := hdw2l.bo.own
            rw [← Hnb.out] at hownw2l
            have OWNw2 := Lib.hid hownw2l
            have VALw2 := Lib.hid hvw2l
            have DDw2 := Lib.hid hdw2l
            have WWw2 := Lib.hid hw2l
            have BXLw2 := Lib.hid (hfw2l.whole BXw2.out (by simp))
            clear hw2l hfw2l hvw2l hdw2l hownw2l
            go_wp2_with (at_builtin; rw [← WWw2.out]; refine wpList_appS (by rfl) (.tmp 64) (.tmp 66) 27 rfl w.heap.size 44 i0 (.agg #[.string ⟨#[]⟩, .slice none 0 0, .int .u64 0, .int .u64 0]) 4 56 Try.underlying27 HI.out HZ0.out rfl (by decide) HZ1.out HZ2.out (by decide) (.slice ab nb cb) nb _ rfl OWNw2.out _ 1 1 _ rfl VALw2.out rfl (nc_one _) (fun h => by cases h) hfitnb DDw2.out.frm.size ?_)
            intro abw4 cbw4 w4 happ
            obtain ⟨hdw4, hnw4, hfw4⟩ := DDw2.out.addB (DDw2.out.nl.ok _ HMEM.out) Hnb.out happ
            have hgn : g ∉ blk ab := fun hm => by have h1 := (D.out.bo.blk_lt g hm).2; have h2 := HGG.out; omega
            have BXw4 := Lib.hid (hfw4.whole BXLw2.out hgn)
            have D4 := Lib.hid hdw4
            have HLw4 := Lib.hid hnw4
            clear happ hdw4 hnw4 hfw4 hgn
            have d0 := BXw4.out.cell 0
            have d1 := BXw4.out.cell 1
            have d2 := BXw4.out.cell 2
            have d3 := BXw4.out.cell 3
            simp at d0 d1 d2 d3
            have hcs : ((o : Int) == 0) = true ∨ (((o : Int) == 0) = false ∧ ((xown : Int) != (o : Int)) = true) ∨ (((o : Int) == 0) = false ∧ ((xown : Int) != (o : Int)) = false) := by
              cases ((o : Int) == 0) <;> cases ((xown : Int) != (o : Int)) <;> simp
            rcases hcs with h3 | ⟨h3, h4⟩ | ⟨h3, h4⟩
            · have hkp : (decide (o = 0) || decide (xown ≠ o)) = true := by rw [beq_iff_eq] at h3; simp; omega
              have HKP := Lib.hid hkp
              clear hkp
              obtain ⟨w4l, hw4l⟩ : ∃ z, z = w4.alloc (.cells #[.string xk, .slice xa xm xc, .int .u64 (xver : Nat), .int .u64 (xown : Nat)] 44) := ⟨_, rfl⟩
              have hfw4l : Frm [] w4 w4l := by rw [hw4l]; exact (Frm.refl _ _).alloc _
              have hvw4l : ValsAt w4l (some ⟨w4.heap.size, 0, none⟩) (nc [(⟨⟨xk, xv, xver, xown⟩, xa, xc⟩ : Nx)]) := by rw [hw4l, HXM.out]; exact nvals_one w4 (⟨⟨xk, xv, xver, xown⟩, xa, xc⟩ : Nx) _
              have hdw4l := D4.out.keep hfw4l
              have hownw4l := hdw4l.wo.own
              rw [← Hnw.out] at hownw4l
              have OWNw4 := Lib.hid hownw4l
              have VALw4 := Lib.hid hvw4l
              have DDw4 := Lib.hid hdw4l
              have WWw4 := Lib.hid hw4l
              have BXLw4 := Lib.hid (hfw4l.whole BXw4.out (by simp))
              clear hw4l hfw4l hvw4l hdw4l hownw4l
              go_wp2_with (at_builtin; rw [← WWw4.out]; refine wpList_appS (by rfl) (.tmp 76) (.tmp 78) 27 rfl w.heap.size 44 i0 (.agg #[.string ⟨#[]⟩, .slice none 0 0, .int .u64 0, .int .u64 0]) 4 56 Try.underlying27 HI.out HZ0.out rfl (by decide) HZ1.out HZ2.out (by decide) (.slice aw nw cw) nw _ rfl OWNw4.out _ 1 1 _ rfl VALw4.out rfl (nc_one _) (fun h => by cases h) hfitnw DDw4.out.frm.size ?_)
              intro aww6 cww6 w6 happ
              obtain ⟨hdw6, hnw6, hfw6⟩ := DDw4.out.addW (DDw4.out.nl.ok _ HMEM.out) Hnw.out happ
              have hgn : g ∉ blk aw := fun hm => by have h1 := (D.out.wo.blk_lt g hm).2; have h2 := HGG.out; omega
              have BXw6 := Lib.hid (hfw6.whole BXLw4.out hgn)
              have D6 := Lib.hid hdw6
              have HLw6 := Lib.hid hnw6
              clear happ hdw6 hnw6 hfw6 hgn
              have HREL : Hid (DpRel w p o P ta tc X qs (some ⟨b, off, none⟩) Y (.slice aww6 (nw + 1) cww6) (.slice abw4 (nb + 1) cbw4) (.int .i64 ((k + 1 : Nat) : Int)) w6) := Lib.hid ⟨k + 1, aww6, abw4, cww6, cbw4, (nw + 1), (nb + 1), (W ++ [(⟨⟨xk, xv, xver, xown⟩, xa, xc⟩ : Nx)]), (Bg ++ [(⟨⟨xk, xv, xver, xown⟩, xa, xc⟩ : Nx)]), HKY.out, rfl, rfl, rfl, Lib.hid HLw6.out, Lib.hid HLw4.out, Lib.hid (by unfold keepD; rw [HMK.out, List.filter_append]; have e := HWN.out; unfold keepD at e; rw [← e, List.filter_cons, if_pos HKP.out]; simp [nds]), Lib.hid (by rw [HMK.out, List.filter_append, ← HBN.out, List.filter_cons, if_pos HP.out]; simp [nds]), D6⟩
              go_wp2
              go_roundw
              case rel => exact HREL.out
              case measure => simp [intOf]; omega
            · have hkp : (decide (o = 0) || decide (xown ≠ o)) = true := by rw [bne_iff_ne] at h4; simp; omega
              have HKP := Lib.hid hkp
              clear hkp
              obtain ⟨w4l, hw4l⟩ : ∃ z, z = w4.alloc (.cells #[.string xk, .slice xa xm xc, .int .u64 (xver : Nat), .int .u64 (xown : Nat)] 44) := ⟨_, rfl⟩
              have hfw4l : Frm [] w4 w4l := by rw [hw4l]; exact (Frm.refl _ _).alloc _
              have hvw4l : ValsAt w4l (some ⟨w4.heap.size, 0, none⟩) (nc [(⟨⟨xk, xv, xver, xown⟩, xa, xc⟩ : Nx)]) := by rw [hw4l, HXM.out]; exact nvals_one w4 (⟨⟨xk, xv, xver, xown⟩, xa, xc⟩ : Nx) _
              have hdw4l := D4.out.keep hfw4l
              have hownw4l := hdw4l.wo.own
              rw [← Hnw.out] at hownw4l
              have OWNw4 := Lib.hid hownw4l
              have VALw4 := Lib.hid hvw4l
              have DDw4 := Lib.hid hdw4l
              have WWw4 := Lib.hid hw4l
              have BXLw4 := Lib.hid (hfw4l.whole BXw4.out (by simp))
              clear hw4l hfw4l hvw4l hdw4l hownw4l
              go_wp2_with (at_builtin; rw [← WWw4.out]; refine wpList_appS (by rfl) (.tmp 76) (.tmp 78) 27 rfl w.heap.size 44 i0 (.agg #[.string ⟨#[]⟩, .slice none 0 0, .int .u64 0, .int .u64 0]) 4 56 Try.underlying27 HI.out HZ0.out rfl (by decide) HZ1.out HZ2.out (by decide) (.slice aw nw cw) nw _ rfl OWNw4.out _ 1 1 _ rfl VALw4.out rfl (nc_one _) (fun h => by cases h) hfitnw DDw4.out.frm.size ?_)
              intro aww6 cww6 w6 happ
              obtain ⟨hdw6, hnw6, hfw6⟩ := DDw4.out.addW (DDw4.out.nl.ok _ HMEM.out) Hnw.out happ
              have hgn : g ∉ blk aw := fun hm => by have h1 := (D.out.wo.blk_lt g hm).2; have h2 := HGG.out; omega
              have BXw6 := Lib.hid (hfw6.whole BXLw4.out hgn)
              have D6 := Lib.hid hdw6
              have HLw6 := Lib.hid hnw6
              clear happ hdw6 hnw6 hfw6 hgn
              have HREL : Hid (DpRel w p o P ta tc X qs (some ⟨b, off, none⟩) Y (.slice aww6 (nw + 1) cww6) (.slice abw4 (nb + 1) cbw4) (.int .i64 ((k + 1 : Nat) : Int)) w6) := Lib.hid ⟨k + 1, aww6, abw4, cww6, cbw4, (nw + 1), (nb + 1), (W ++ [(⟨⟨xk, xv, xver, xown⟩, xa, xc⟩ : Nx)]), (Bg ++ [(⟨⟨xk, xv, xver, xown⟩, xa, xc⟩ : Nx)]), HKY.out, rfl, rfl, rfl, Lib.hid HLw6.out, Lib.hid HLw4.out, Lib.hid (by unfold keepD; rw [HMK.out, List.filter_append]; have e := HWN.out; unfold keepD at e; rw [← e, List.filter_cons, if_pos HKP.out]; simp [nds]), Lib.hid (by rw [HMK.out, List.filter_append, ← HBN.out, List.filter_cons, if_pos HP.out]; simp [nds]), D6⟩
              go_wp2
              go_roundw
              case rel => exact HREL.out
              case measure => simp [intOf]; omega
            · have hkp : (decide (o = 0) || decide (xown ≠ o)) = false := by rw [beq_eq_false_iff_ne] at h3; rw [bne_eq_false_iff_eq] at h4; simp; omega
              have HKP := Lib.hid hkp
              clear hkp
              have HREL : Hid (DpRel w p o P ta tc X qs (some ⟨b, off, none⟩) Y (.slice aw nw cw) (.slice abw4 (nb + 1) cbw4) (.int .i64 ((k + 1 : Nat) : Int)) w4) := Lib.hid ⟨k + 1, aw, abw4, cw, cbw4, nw, (nb + 1), W, (Bg ++ [(⟨⟨xk, xv, xver, xown⟩, xa, xc⟩ : Nx)]), HKY.out, rfl, rfl, rfl, Lib.hid Hnw.out, Lib.hid HLw4.out, Lib.hid (by unfold keepD; rw [HMK.out, List.filter_append]; have e := HWN.out; unfold keepD at e; rw [← e, List.filter_cons, if_neg (by rw [HKP.out]; simp)]; simp), Lib.hid (by rw [HMK.out, List.filter_append, ← HBN.out, List.filter_cons, if_pos HP.out]; simp [nds]), D4⟩
              go_wp2
              go_roundw
              case rel => exact HREL.out
              case measure => simp [intOf]; omega
        · obtain rfl : k = m := by omega
          have hkt : (nds Y).take k = nds X := by rw [List.take_of_length_le (by rw [nds_len', ← HM.out]; exact Nat.le_refl _), HYN.out]
          have hwn := HWN.out
          have hbn := HBN.out
          rw [hkt] at hwn hbn
          have HWN2 := Lib.hid hwn
          have HBN2 := Lib.hid hbn
          have hn63 : nb ≤ 9223372036854775807 := by rw [Hnb.out]; have h1 := (D.out.bo.caps).1; have h2 := (D.out.bo.caps).2.1; unfold maxLen at h2; omega
          have hw63 : nw ≤ 9223372036854775807 := by rw [Hnw.out]; have h1 := (D.out.wo.caps).1; have h2 := (D.out.wo.caps).2.1; unfold maxLen at h2; omega
          have HFF : Hid (∀ x ∈ blk aw ++ blk ab, x < wr.heap.size) := Lib.hid (fun x hx => by
            rcases List.mem_append.1 hx with h1 | h1
            · exact (D.out.wo.blk_lt x h1).2
            · exact (D.out.bo.blk_lt x h1).2)
          have HLS := Lib.hid (list_any P D.out.pt HG.out.srt HFF.out HG.out.small)
          clear hkt hwn hbn hk
          go_wp2_with fail
          (with_reducible refine HLS.out.mono ?_)
          rintro e w3 ⟨a3, c3, Y3, hY3, rfl, hown3, hf3⟩
          have hl3 : Y3.length = nb := by rw [Hnb.out, ← nds_len', hY3, ← HBN2.out, nds_len']
          rw [hl3]
          have D3 := Lib.hid (D.out.keep hf3)
          have HSN := Lib.hid (sameNodes_true a3 ab nb c3 cb Y3 Bg _ _ w3 hown3.nl D3.out.bo.nl hl3.symm (by rw [hY3, HBN2.out]) hn63)
          have HF3 := Lib.hid hf3
          clear hY3 hown3 hl3 hf3 HLS
          go_wp2_with fail
          (with_reducible refine HSN.out.mono ?_)
          rintro e w4 ⟨rfl, hf4⟩
          have D4 := Lib.hid (D3.out.keep hf4)
          have HDR := Lib.hid (drop_any o D4.out.pt (fun x hx => Nat.lt_of_lt_of_le (HFF.out x hx) (Nat.le_trans HF3.out.size hf4.size)))
          have HF4 := Lib.hid (HF3.out.trans hf4 (U := []) (by simp) (by simp))
          clear hf4 HSN D3
          go_wp2_with fail
          (with_reducible refine HDR.out.mono ?_)
          rintro e w5 ⟨rfl, a5, c5, X5, q5, hd5, hn5, hf5⟩
          have HG5 : Hid (Good (nds X5)) := Lib.hid (by rw [hn5]; exact HG.out.drop o)
          have HLS := Lib.hid (list_any ⟨#[]⟩ hd5 HG5.out.srt (fun x hx => Nat.lt_of_lt_of_le (HFF.out x hx) (Nat.le_trans HF4.out.size hf5.size)) HG5.out.small)
          rw [pfx_all, hn5] at HLS
          have HW5 := Lib.hid (D4.out.wo.keep (F' := []) hf5 (fun z hz => .inl (by simp at hz; simp [hz])) (by simp))
          have HF5 := Lib.hid (D4.out.frm.trans hf5 (U := []) (by simp) (fun x hx => by simp at hx; subst hx; exact .inr hpw))
          clear hd5 hn5 hf5 HDR
          go_wp2_with fail
          (with_reducible refine HLS.out.mono ?_)
          rintro e w6 ⟨a6, c6, Y6, hY6, rfl, hown6, hf6⟩
          have hl6 : Y6.length = nw := by rw [Hnw.out, ← nds_len', hY6, ← HWN2.out, nds_len']
          rw [hl6]
          have HSN := Lib.hid (sameNodes_true a6 aw nw c6 cw Y6 W _ _ w6 hown6.nl (HW5.out.keep (F' := []) hf6 (by simp) (by simp)).nl hl6.symm (by rw [hY6, HWN2.out]) hw63)
          have HF6 := Lib.hid (HF5.out.trans hf6 (U := []) (by simp) (by simp))
          clear hY6 hown6 hl6 hf6 HLS
          go_wp2_with fail
          (with_reducible refine HSN.out.mono ?_)
          rintro e w7 ⟨rfl, hf7⟩
          have HF7 := Lib.hid (HF6.out.trans hf7 (U := []) (by simp) (by simp))
          clear hf7 HSN
          go_wp2
          go_ret
          exact ⟨rfl, HF7.out.below (by simp) (Nat.le_refl _)⟩

theorem treeDrops_walk (a0 : Option Addr) (n cap0 : Nat) (ts : List Tc) (o : Nat) (P : ByteArray) (w : World) (h : Tcs w a0 ts) (hn : n = ts.length) (h63 : n ≤ 9223372036854775807) (_ho : o < 18446744073709551616) (hP : P.size ≤ 9223372036854775807) :
    Calls Try.prog 9 #[.slice a0 n cap0, .int .u64 (o : Nat), .string P] w fun e w' => e = .returned (.bool true) ∧ Below w.heap.size w w' := by
  by_cases hbig : 10 < P.size
  · have HAW := Lib.hid (awake6_any w)
    clear h hn
    go_enter Try.func9, Try.ntmps9
    go_wp2_with fail
    (with_reducible refine HAW.out.mono ?_)
    rintro e w1 ⟨rfl, hb⟩
    have HB := Lib.hid hb; clear hb
    go_wp2
    go_ret
    exact ⟨rfl, HB.out⟩
  · exact treeDrops_main a0 n cap0 ts o P w h hn h63 (by omega)
end Go.Proofs.Ytchhbmhnjknhaaa
