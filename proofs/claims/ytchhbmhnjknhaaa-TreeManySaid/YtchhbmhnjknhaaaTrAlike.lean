/- Put, Delete of the program's tree in all; what the document's tree does is what the program's does. -/
import Derived.Test.YtchhbmhnjknhaaaTrDrop
import Derived.Test.YtchhbmhnjknhaaaRtList
import Derived.Test.YtchhbmhnjknhaaaRtPut3
namespace Go.Proofs.Ytchhbmhnjknhaaa
open Go.RowKit

/-- Nodes in order, keys and values of lengths that Put lets in. -/
structure Good (L : List Nd) : Prop where
  srt : Srt L
  lens : ∀ d ∈ L, 1 ≤ d.k.size ∧ d.k.size ≤ 64 ∧ d.v.length ≤ 3840
theorem Good.small {L : List Nd} (h : Good L) : ∀ d ∈ L, d.k.size ≤ 64 ∧ d.v.length ≤ 3840 := fun d hd => ⟨(h.lens d hd).2.1, (h.lens d hd).2.2⟩
theorem Good.nil : Good [] := ⟨List.Pairwise.nil, by simp⟩
theorem lenC_ok {k n : Nat} (h : lenC k n = 0) : 1 ≤ k ∧ k ≤ 64 ∧ n ≤ 3840 := by
  unfold lenC at h
  split at h
  · omega
  · split at h <;> omega

def putNC (L : List Nd) (s : ByteArray) (v : List Nat) (want : Nat) : Nat := if lenC s.size v.length ≠ 0 then lenC s.size v.length else unwC L s want
def putNR (L : List Nd) (s : ByteArray) (v : List Nat) (want : Nat) : Nat := if putNC L s v want ≠ 0 then 0 else (want + 1) % 18446744073709551616
def putNL (L : List Nd) (s : ByteArray) (v : List Nat) (want own : Nat) : List Nd :=
  if putNC L s v want ≠ 0 then L
  else if isN L s = true then L.take (ixN L s) ++ ⟨s, v, (want + 1) % 18446744073709551616, (L.getD (ixN L s) default).own⟩ :: L.drop (ixN L s + 1)
  else L.take (ixN L s) ++ ⟨s, v, 1, own⟩ :: L.drop (ixN L s)
theorem unwC_ok {L : List Nd} {s : ByteArray} {want : Nat} (h : unwC L s want = 0) :
    (isN L s = true ∧ want ≠ 0 ∧ (L.getD (ixN L s) default).ver = want) ∨ (isN L s = false ∧ want = 0 ∧ L.length < 256) := by
  unfold unwC at h
  cases his : isN L s
  · rw [his, if_neg (by simp)] at h
    right
    split at h
    · omega
    · split at h <;> refine ⟨rfl, by omega, by omega⟩
  · rw [his, if_pos rfl] at h
    left
    split at h
    · omega
    · split at h
      · omega
      · rename_i h1 h2
        exact ⟨rfl, h1, by omega⟩
theorem Good.put {L : List Nd} (h : Good L) (s : ByteArray) (v : List Nat) (want own : Nat) : Good (putNL L s v want own) := by
  unfold putNL
  by_cases hc : putNC L s v want ≠ 0
  · rw [if_pos hc]; exact h
  · rw [if_neg hc]
    have hl : lenC s.size v.length = 0 := by
      unfold putNC at hc
      by_cases h1 : lenC s.size v.length ≠ 0
      · rw [if_pos h1] at hc; exact absurd h1 hc
      · omega
    obtain ⟨l1, l2, l3⟩ := lenC_ok hl
    cases his : isN L s
    · rw [if_neg (by simp)]
      refine ⟨h.srt.put (d := ⟨s, v, 1, own⟩) his, fun d hd => ?_⟩
      rcases List.mem_append.1 hd with h1 | h1
      · exact h.lens d (List.mem_of_mem_take h1)
      · rcases List.mem_cons.1 h1 with rfl | h1
        · exact ⟨l1, l2, l3⟩
        · exact h.lens d (List.mem_of_mem_drop h1)
    · rw [if_pos rfl]
      obtain ⟨d0, e0, k0, g0, _⟩ := isN_split his
      have hs := h.srt
      rw [e0] at hs
      refine ⟨hs.same (by rw [k0]), fun d hd => ?_⟩
      rcases List.mem_append.1 hd with h1 | h1
      · exact h.lens d (List.mem_of_mem_take h1)
      · rcases List.mem_cons.1 h1 with rfl | h1
        · exact ⟨l1, l2, l3⟩
        · exact h.lens d (List.mem_of_mem_drop h1)

/-- What a call of the program's tree leaves: the nodes L'. -/
def PtAny (w : World) (B p : Nat) (F : List Nat) (L' : List Nd) (v : Value) (e : Ending) (w' : World) : Prop := e = .returned v ∧ PtTo w w' B p F L'
theorem put_any {w : World} {B p : Nat} {F : List Nat} {a : Option Addr} {cap : Nat} {L : List Nx} {qs : List Nat} (s : ByteArray) (va : Option Addr) (vn vc : Nat) (v : List Nat) (want own : Nat) (h : Pt w B p F a cap L qs) (hG : Good (nds L)) (hF : ∀ x ∈ F, x < w.heap.size)
    (hb : Bytes w va v) (hv : vn = v.length) (hvn : va = none → vc = 0) (hs : s.size ≤ 9223372036854775807) (_hw : want < 18446744073709551616) (ho : own < 18446744073709551616) :
    Calls Try.prog 13 #[.pointer (some ⟨p, 0, none⟩), .string s, .slice va vn vc, .int .u64 (want : Nat), .int .u64 (own : Nat)] w (PtAny w B p F (putNL (nds L) s v want own) (.tuple #[.int .u64 (putNR (nds L) s v want : Nat), .int .i64 (putNC (nds L) s v want : Nat)])) := by
  have hself : PtTo w w B p F (nds L) := ⟨a, cap, L, qs, h, rfl, Frm.refl _ _⟩
  have hv63 : vn ≤ 9223372036854775807 := by rw [hv]; exact hb.2.1
  by_cases hl : lenC s.size v.length = 0
  · by_cases hu : unwC (nds L) s want = 0
    · have hc : putNC (nds L) s v want = 0 := by unfold putNC; rw [if_neg (by omega)]; exact hu
      have hR : putNR (nds L) s v want = (want + 1) % 18446744073709551616 := by unfold putNR; rw [if_neg (by omega)]
      rw [hc, hR]
      unfold putNL
      rw [if_neg (by omega)]
      rcases unwC_ok hu with ⟨his, hw0, hver⟩ | ⟨his, rfl, hfew⟩
      · rw [if_pos his]
        refine (put_old s va vn vc v want _ own (ixN (nds L) s) _ h hG.srt hF hb hv hvn (by rw [hv]; exact hl) ?_ his hw0 hver rfl rfl rfl).mono fun _ _ h => h
        have hlt : ixN (nds L) s < L.length := by
          obtain ⟨_, _, _, _, h4⟩ := isN_split his
          rwa [nds_len'] at h4
        rw [nds_getD]
        exact (h.ok _ (by simp [hlt])).own
      · rw [if_neg (by rw [his]; simp)]
        exact (put_new s va vn vc v own (ixN (nds L) s) 1 h hG.srt hF hb hv hvn (by rw [hv]; exact hl) ho his (by rwa [nds_len'] at hfew) rfl rfl).mono fun _ _ h => h
    · have hc : putNC (nds L) s v want = unwC (nds L) s want := by unfold putNC; rw [if_neg (by omega)]
      have hR : putNR (nds L) s v want = 0 := by unfold putNR; rw [if_pos (by omega)]
      rw [hR, hc]
      unfold putNL
      rw [if_pos (by omega)]
      refine (put_unw s va vn vc want own h hG.srt hs hv63 (by rw [hv]; exact hl) hu).mono ?_
      rintro e w' ⟨he, rfl⟩
      exact ⟨he, hself⟩
  · have hc : putNC (nds L) s v want = lenC s.size v.length := by unfold putNC; rw [if_pos hl]
    have hR : putNR (nds L) s v want = 0 := by unfold putNR; rw [if_pos (by omega)]
    rw [hR, hc]
    unfold putNL
    rw [if_pos (by omega)]
    refine (put_len s va vn vc want own h hs hv63 (by rw [hv]; exact hl)).mono ?_
    rintro e w' ⟨he, rfl⟩
    exact ⟨by rw [he, hv]; rfl, hself⟩

def delL (L : List Nd) (s : ByteArray) (want : Nat) : List Nd := if delN L s want = 0 then L.take (ixN L s) ++ L.drop (ixN L s + 1) else L
theorem delN_ok {L : List Nd} {s : ByteArray} {want : Nat} (h : delN L s want = 0) : isN L s = true ∧ (L.getD (ixN L s) default).ver = want := by
  unfold delN at h
  cases his : isN L s
  · rw [his, if_neg (by simp)] at h; omega
  · rw [his, if_pos rfl] at h
    split at h
    · omega
    · exact ⟨rfl, by omega⟩
theorem Good.del {L : List Nd} (h : Good L) (s : ByteArray) (want : Nat) : Good (delL L s want) := by
  unfold delL
  by_cases hc : delN L s want = 0
  · rw [if_pos hc]
    obtain ⟨his, _⟩ := delN_ok hc
    obtain ⟨d0, e0, k0, g0, _⟩ := isN_split his
    have hs := h.srt
    rw [e0] at hs
    refine ⟨hs.less, fun d hd => ?_⟩
    rcases List.mem_append.1 hd with h1 | h1
    · exact h.lens d (List.mem_of_mem_take h1)
    · exact h.lens d (List.mem_of_mem_drop h1)
  · rw [if_neg hc]; exact h
theorem del_any {w : World} {B p : Nat} {F : List Nat} {a : Option Addr} {cap : Nat} {L : List Nx} {qs : List Nat} (s : ByteArray) (want : Nat) (h : Pt w B p F a cap L qs) (hG : Good (nds L)) (hF : ∀ x ∈ F, x < w.heap.size) :
    Calls Try.prog 15 #[.pointer (some ⟨p, 0, none⟩), .string s, .int .u64 (want : Nat)] w (PtAny w B p F (delL (nds L) s want) (.int .i64 (delN (nds L) s want : Nat))) := by
  unfold delL
  by_cases hc : delN (nds L) s want = 0
  · rw [if_pos hc, hc]
    obtain ⟨his, hv⟩ := delN_ok hc
    exact (del_ok s want _ h hG.srt hF his hv rfl).mono fun _ _ h => h
  · rw [if_neg hc]
    refine (del_bad s want h hG.srt hc).mono ?_
    rintro e w' ⟨he, rfl⟩
    exact ⟨he, a, cap, L, qs, h, rfl, Frm.refl _ _⟩
theorem Good.drop {L : List Nd} (h : Good L) (o : Nat) : Good (keepD o L) := ⟨h.srt.filter _, fun d hd => h.lens d (List.mem_filter.1 hd).1⟩

/-- The document's tree answers the same. -/
theorem Alike.codeP {L : List Nd} {X : List Nx} (h : Alike L X) (s : ByteArray) (v : List Nat) (want : Nat) : putC X s v want = putNC L s v want := by
  have ht := h.there s
  have hl := h.len
  unfold Go.Proofs.Ytchhbmhnjknhaaa.putC putNC lenC unwC
  by_cases h1 : s.size < 1 ∨ 64 < s.size
  · rw [if_pos h1, if_pos h1, if_pos (by omega)]
  · rw [if_neg h1]
    by_cases h2 : 3840 < v.length
    · rw [if_pos h2, if_neg h1, if_pos h2, if_pos (by omega)]
    · by_cases hin : atN X s < X.length
      · have hnode := h.node hin
        rw [decide_eq_true hin] at ht
        simp only [h1, h2, if_false, ht, if_true, hin, hnode]
        by_cases h3 : want = 0
        · simp [h3]
        · simp [h3]
      · rw [decide_eq_false hin] at ht
        simp only [h1, h2, if_false, ht, hin]
        by_cases h3 : want = 0
        · simp [h3, hl]
        · simp [h3]
theorem Alike.retP {L : List Nd} {X : List Nx} (h : Alike L X) (s : ByteArray) (v : List Nat) (want : Nat) : putR X s v want = putNR L s v want := by
  unfold Go.Proofs.Ytchhbmhnjknhaaa.putR putNR
  rw [h.codeP]
theorem nds_take (X : List Nx) (n : Nat) : nds (X.take n) = (nds X).take n := by simp [nds, List.map_take]
theorem nds_drop (X : List Nx) (n : Nat) : nds (X.drop n) = (nds X).drop n := by simp [nds, List.map_drop]
theorem nds_app (X Y : List Nx) : nds (X ++ Y) = nds X ++ nds Y := by simp [nds]
/-- A node taken out on both sides. -/
theorem Alike.cut {L : List Nd} {X : List Nx} (h : Alike L X) {s : ByteArray} (hin : atN X s < X.length) :
    ∃ d, L = L.take (ixN L s) ++ d :: L.drop (ixN L s + 1) ∧ nds X = (nds X).take (atN X s) ++ d :: (nds X).drop (atN X s + 1) ∧ d.k = s ∧ ((nds X).take (atN X s) ++ (nds X).drop (atN X s + 1)).Perm (L.take (ixN L s) ++ L.drop (ixN L s + 1)) := by
  have ht := h.there s
  rw [decide_eq_true hin] at ht
  obtain ⟨d, e, k, g, _⟩ := isN_split ht
  have hx : nds X = (nds X).take (atN X s) ++ d :: (nds X).drop (atN X s + 1) := by
    have hl : atN X s < (nds X).length := by rw [nds_len']; exact hin
    have hd : (nds X)[atN X s] = d := by
      rw [← g, h.node hin, ← nds_getD]; simp [hl]
    conv => lhs; rw [← List.take_append_drop (atN X s) (nds X), List.drop_eq_getElem_cons hl, hd]
  refine ⟨d, e, hx, k, ?_⟩
  have hp := h.perm
  rw [hx, e] at hp
  have := (List.perm_middle.symm.trans (hp.trans List.perm_middle))
  exact List.Perm.cons_inv this
theorem Alike.put {L : List Nd} {X X' : List Nx} (h : Alike L X) (hG : Good L) (s : ByteArray) (v : List Nat) (want own : Nat) (hX : nds X' = putL X s v want own) : Alike (putNL L s v want own) X' := by
  refine ⟨(hG.put s v want own).srt, ?_⟩
  rw [hX]
  unfold putL putNL
  rw [h.codeP]
  by_cases hc : putNC L s v want ≠ 0
  · rw [if_pos hc, if_pos hc]; exact h.perm
  · rw [if_neg hc, if_neg hc, h.there s]
    by_cases hin : atN X s < X.length
    · rw [if_pos hin, if_pos (by simp [hin]), h.node hin]
      obtain ⟨d, e1, e2, e3, hp⟩ := h.cut hin
      have hset : ∀ e : Nd, (nds X).set (atN X s) e = (nds X).take (atN X s) ++ e :: (nds X).drop (atN X s + 1) := fun e => by
        have hl : atN X s < (nds X).length := by rw [nds_len']; exact hin
        rw [List.set_eq_take_append_cons_drop, if_pos hl]
      rw [hset]
      exact List.perm_middle.trans ((hp.cons _).trans List.perm_middle.symm)
    · rw [if_neg hin, if_neg (by simp [hin])]
      have h1 : (nds X ++ [(⟨s, v, 1, own⟩ : Nd)]).Perm (⟨s, v, 1, own⟩ :: L) := (List.perm_append_singleton _ _).trans (h.perm.cons _)
      refine h1.trans ?_
      conv => lhs; rw [← List.take_append_drop (ixN L s) L]
      exact List.perm_middle.symm
theorem Alike.codeD {L : List Nd} {X : List Nx} (h : Alike L X) (s : ByteArray) (want : Nat) : delC X s want = delN L s want := by
  unfold Go.Proofs.Ytchhbmhnjknhaaa.delC delN
  rw [h.there s]
  by_cases hin : atN X s < X.length
  · rw [if_neg (show ¬ ¬ atN X s < X.length from fun h => h hin), decide_eq_true hin, if_pos rfl, h.node hin]
  · rw [if_pos hin, if_neg (by simp [hin])]
theorem Alike.del {L : List Nd} {X X' : List Nx} (h : Alike L X) (hG : Good L) (s : ByteArray) (want : Nat) (hX : X' = if delC X s want = 0 then X.take (atN X s) ++ X.drop (atN X s + 1) else X) : Alike (delL L s want) X' := by
  refine ⟨(hG.del s want).srt, ?_⟩
  subst hX
  unfold delL
  rw [h.codeD]
  by_cases hc : delN L s want = 0
  · rw [if_pos hc, if_pos hc, nds_app, nds_take, nds_drop]
    have his := (delN_ok hc).1
    rw [h.there s] at his
    obtain ⟨d, e1, e2, e3, hp⟩ := h.cut (of_decide_eq_true his)
    exact hp
  · rw [if_neg hc, if_neg hc]; exact h.perm
theorem keepO_nds (o : Nat) (X : List Nx) : nds (keepO o X) = keepD o (nds X) := keepD_nds o X
theorem Alike.drop {L : List Nd} {X : List Nx} (h : Alike L X) (o : Nat) : Alike (keepD o L) (keepO o X) := by
  refine ⟨h.srt.filter _, ?_⟩
  rw [keepO_nds]
  exact h.perm.filter _

/-- The document's list. -/
theorem pos_ix (Y : List Nx) (K : ByteArray) : pos Y K = ixN (nds Y) K := by
  unfold pos ixN nds
  rw [List.findIdx_map]
  rfl
theorem ins_nds (x : Nx) (Y : List Nx) : nds (ins x Y) = (nds Y).take (ixN (nds Y) x.t.k) ++ x.t :: (nds Y).drop (ixN (nds Y) x.t.k) := by
  unfold ins
  rw [nds_app, nds_take, pos_ix, nds_app, nds_drop]
  rfl
theorem preB_pfx (P K : ByteArray) : preB P K = pfx P K := by unfold preB pfx; exact Lib.hasPrefix_raw K P
theorem Alike.dis {L : List Nd} {X : List Nx} (h : Alike L X) : (nds X).Pairwise (fun a b => a.k ≠ b.k) :=
  (List.Perm.pairwise_iff (fun {_ _} h => Ne.symm h) h.perm).2 (List.Pairwise.imp (fun h => kl_ne h) h.srt)
theorem lsN_inv (P : ByteArray) (X : List Nx) (hd : (nds X).Pairwise (fun a b => a.k ≠ b.k)) : ∀ k, k ≤ X.length → Srt (nds (lsN P (X.take k))) ∧ (nds (lsN P (X.take k))).Perm (((nds X).take k).filter (fun d => pfx P d.k))
  | 0, _ => by simp [lsN, nds, Srt]
  | k + 1, hk => by
    obtain ⟨h1, h2⟩ := lsN_inv P X hd k (by omega)
    have hkl : k < X.length := by omega
    have hkn : k < (nds X).length := by rw [nds_len']; exact hkl
    have e : (nds X)[k] = (X.getD k default).t := by rw [← nds_getD]; simp [hkn]
    rw [lsN_take hkl, preB_pfx, List.take_succ_eq_append_getElem hkn, List.filter_append, e]
    cases hp : pfx P (X.getD k default).t.k
    · rw [if_neg (by simp)]
      have e0 : List.filter (fun d => pfx P d.k) [(X.getD k default).t] = [] := by rw [List.filter_cons, if_neg (by rw [hp]; simp)]; rfl
      rw [e0, List.append_nil]
      exact ⟨h1, h2⟩
    · rw [if_pos rfl, ins_nds]
      have hno : isN (nds (lsN P (X.take k))) (X.getD k default).t.k = false := by
        cases his : isN (nds (lsN P (X.take k))) (X.getD k default).t.k with
        | false => rfl
        | true =>
          obtain ⟨d, hd1, hd2⟩ := (isN_iff h1).1 his
          have hd3 := (List.mem_filter.1 (h2.subset hd1)).1
          obtain ⟨i, hi, rfl⟩ := List.getElem_of_mem hd3
          rw [List.length_take] at hi
          have := List.pairwise_iff_getElem.1 hd i k (by omega) hkn (by omega)
          rw [e] at this
          rw [List.getElem_take] at hd2
          exact absurd hd2 this
      refine ⟨h1.put hno, ?_⟩
      have hm := (List.perm_middle (a := (X.getD k default).t) (l₁ := (nds (lsN P (X.take k))).take (ixN (nds (lsN P (X.take k))) (X.getD k default).t.k)) (l₂ := (nds (lsN P (X.take k))).drop (ixN (nds (lsN P (X.take k))) (X.getD k default).t.k)))
      rw [List.take_append_drop] at hm
      refine hm.trans ((h2.cons _).trans ?_)
      simp only [List.filter_cons, hp, if_true, List.filter_nil]
      exact (List.perm_append_singleton _ _).symm
theorem Alike.list {L : List Nd} {X : List Nx} (h : Alike L X) (P : ByteArray) : nds (lsN P X) = L.filter (fun d => pfx P d.k) := by
  obtain ⟨h1, h2⟩ := lsN_inv P X h.dis X.length (Nat.le_refl _)
  rw [List.take_of_length_le (Nat.le_refl _)] at h1 h2
  rw [List.take_of_length_le (by rw [nds_len']; exact Nat.le_refl _)] at h2
  exact h1.eq (h.srt.filter _) (h2.trans (h.perm.filter _))
theorem Alike.nil : Alike [] [] := ⟨List.Pairwise.nil, by simp [nds]⟩
end Go.Proofs.Ytchhbmhnjknhaaa
