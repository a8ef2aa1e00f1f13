/- JournalCrash: the walk. -/
import Derived.Test.YteidfplenleogaaMC
namespace Go.Proofs.Yteidfplenleogaa
open Go.RowKit

theorem sizeL : ∀ w, (Go.sizeOf 22).run Try.prog w = .ok 1 w := fun _ => by kernel_rfl

theorem journalCrash_many (a0 : Option Addr) (n0 c0 : Nat) (a1 : Option Addr) (n1 c1 : Nat) (keep bit : Int) (w : World) (h : 30 < n0 ∨ 30 < n1) (h0 : n0 ≤ 9223372036854775807) (h1 : n1 ≤ 9223372036854775807) :
    Calls Try.prog 5 #[.slice a0 n0 c0, .slice a1 n1 c1, .int .i64 keep, .int .i64 bit] w fun e w' => e = .returned (.bool true) ∧ Below w.heap.size w w' := by
  have h' : 30 < n0 ∨ (n0 ≤ 30 ∧ 30 < n1) := by omega
  clear h
  rcases h' with h | ⟨h, h2⟩
  all_goals
    go_enter Try.func5, Try.ntmps5
    go_wp2_with fail
    refine (awake5_any w).mono ?_
    rintro e w1 ⟨rfl, hb⟩
    have HF1 := Lib.hid (Frm.ofBelow hb); clear hb
    go_wp2_with fail
    refine (new_ok 1048576 _ (by omega)).mono ?_
    rintro e w2 ⟨rfl, hd, hf, hz⟩
    have hsz := HF1.out.size
    obtain ⟨p, hp⟩ : ∃ p, p = w1.heap.size := ⟨_, rfl⟩
    rw [← hp] at hd hsz ⊢
    have HD2 := Lib.hid hd
    have HF2 := Lib.hid (HF1.out.trans hf (U := []) (by simp) (by simp))
    clear hd hf hz hp HF1
    go_wp2_with fail
    refine (jopen_any HD2.out).mono ?_
    rintro e w6 ⟨q, F6, ao, co, vo, rfl, op6⟩
    have HF6 := Lib.hid (HF2.out.dk hsz HD2.out op6.frm)
    obtain ⟨r, hr⟩ : ∃ r, r = (recs []).length := ⟨_, rfl⟩
    rw [← hr]
    clear op6 hr
    go_wp2
    go_ret
    exact ⟨rfl, HF6.out.new⟩

/-- At the head of the loop: k records are on the disk. -/
structure CrIn (w : World) (wr : World) (p q : Nat) (X : Option Addr) (L : List (List Nat)) (wn k : Nat) (F : List Nat) (a : Option Addr) (c : Nat) (vs : List Value) : Prop where
  dk : Dk wr p p F (allF (L.take k)) (allF ((L.take k).take wn)).length 1048576
  jn : Jn wr q p
  row : OwnL wr w.heap.size 22 F a c (L.take k) vs
  all : LL wr (blk a ++ F) X L
  frm : Frm [] w wr
  small : ∀ b ∈ L.take k, b.length ≤ 1000
def CrRel (w : World) (p q : Nat) (X : Option Addr) (L : List (List Nat)) (wn : Nat) (u14 u15 u53 : Value) (wr : World) : Prop :=
  ∃ k F a c vs, k ≤ L.length ∧ u14 = .slice a k c ∧ u15 = .int .i64 (min k wn : Nat) ∧ u53 = .int .i64 (k : Nat) ∧ CrIn w wr p q X L wn k F a c vs

theorem take_one {L : List (List Nat)} {k : Nat} (h : k < L.length) : L.take (k + 1) = L.take k ++ [L.getD k []] := by
  rw [List.take_succ_eq_append_getElem h]; simp [h]
theorem OwnL.notin {w : World} {base : Nat} {e : TypeId} {F : List Nat} {a : Option Addr} {cap : Nat} {L : List (List Nat)} {vs : List Value} {g : Nat} {t : TypeId} {cs : Array Value} (h : OwnL w base e F a cap L vs) (hg : Whole w g t cs) (hne : e ≠ t) : g ∉ blk a := by
  intro hm
  obtain ⟨x, rfl, rfl⟩ := mem_blk.1 hm
  exact own_ne h.own hg hne rfl
/-- Behind a record that was written or laid. -/
theorem CrIn.mid {w wr w1 : World} {p q : Nat} {X : Option Addr} {L : List (List Nat)} {wn k : Nat} {F : List Nat} {a : Option Addr} {c : Nat} {vs : List Value} {l' : List Nat} {s' : Nat} (C : CrIn w wr p q X L wn k F a c vs) (hB : w.heap.size ≤ p) (hd : DkTo wr w1 p p F l' s' 1048576) :
    ∃ F1, Dk w1 p p F1 l' s' 1048576 ∧ Jn w1 q p ∧ OwnL w1 w.heap.size 22 F1 a c (L.take k) vs ∧ LL w1 (blk a ++ F1) X L ∧ Frm [] w w1 ∧ Frm F wr w1 ∧ ∀ x ∈ F1, x ∈ F ∨ wr.heap.size ≤ x := by
  obtain ⟨F1, hd1, hf1, hx1⟩ := hd
  refine ⟨F1, hd1, C.jn.keep hf1 (C.jn.notin C.dk), C.row.keep hf1 (fun x h => .inl h) hx1, C.all.keep hf1 (fun x h => .inl (by simp [h])) (fun x h => ?_), C.frm.dk hB C.dk hf1, hf1, hx1⟩
  rcases List.mem_append.1 h with h1 | h1
  · exact .inl (by simp [h1])
  · rcases hx1 x h1 with h2 | h2
    · exact .inl (by simp [h2])
    · exact .inr h2
theorem CrIn.fin {w w1 w3 : World} {p q : Nat} {X : Option Addr} {L : List (List Nat)} {wn k : Nat} {F1 : List Nat} {a a3 : Option Addr} {c c3 : Nat} {vs us : List Value} {b : List Nat} {o : Obj} (hk : k < L.length) (hb : L.getD k [] = b)
    (hd : Dk w1 p p F1 (allF (L.take (k + 1))) (allF ((L.take (k + 1)).take wn)).length 1048576) (hj : Jn w1 q p) (ho : OwnL w1 w.heap.size 22 F1 a c (L.take k) vs) (hl : LL w1 (blk a ++ F1) X L) (hf : Frm [] w w1)
    (hs : ∀ b ∈ L.take k, b.length ≤ 1000) (hb1 : b.length ≤ 1000) (hg1 : OwnL w3 w.heap.size 22 F1 a3 c3 (L.take k ++ [b]) (vs ++ us)) (hg2 : Frm (blk a) (w1.alloc o) w3) (hg3 : ∀ g ∈ blk a3, g ∈ blk a ∨ (w1.alloc o).heap.size ≤ g) :
    CrIn w w3 p q X L wn (k + 1) F1 a3 c3 (vs ++ us) := by
  have hfa : Frm [] w1 (w1.alloc o) := (Frm.refl _ _).alloc _
  have h13 : Frm (blk a) w1 w3 := hfa.trans hg2 (by simp) (fun x hx => .inl hx)
  have hsz := hfa.size
  refine ⟨hd.keep h13 (fun x hx hm => ho.away x hm hx), hj.keep h13 (ho.notin hj (by decide)), ?_, hl.keep h13 (fun x h => .inl (by simp [h])) (fun x h => ?_), hf.trans h13 (by simp) (fun x hx => .inr (ho.blk_lt x hx).1), fun y hy => ?_⟩
  · rw [take_one hk, hb]; exact hg1
  · rcases List.mem_append.1 h with h1 | h1
    · rcases hg3 x h1 with h2 | h2
      · exact .inl (by simp [h2])
      · right; omega
    · exact .inl (by simp [h1])
  · rw [take_one hk, hb] at hy
    rcases List.mem_append.1 hy with h1 | h1
    · exact hs y h1
    · simp at h1; rw [h1]; exact hb1

theorem small_fit {M : List (List Nat)} {n : Nat} (h : ∀ b ∈ M, b.length ≤ n) (hn : n ≤ 4096) (h8 : ∀ b ∈ M, ∀ c ∈ b, c < 256) : Fit M := fun b hb => ⟨Nat.le_trans (h b hb) hn, h8 b hb⟩

set_option maxRecDepth 100000 in
set_option maxHeartbeats 4000000 in
theorem journalCrash_main (a0 : Option Addr) (n0 c0 : Nat) (M : List (List Nat)) (a1 : Option Addr) (n1 c1 : Nat) (N : List (List Nat)) (keep bit : Int) (w : World) (h0 : LIn w a0 c0 M) (e0 : n0 = M.length) (h1 : LIn w a1 c1 N) (e1 : n1 = N.length) (s0 : n0 ≤ 30) (s1 : n1 ≤ 30) :
    Calls Try.prog 5 #[.slice a0 n0 c0, .slice a1 n1 c1, .int .i64 keep, .int .i64 bit] w fun e w' => e = .returned (.bool true) ∧ Below w.heap.size w w' := by
  obtain ⟨i0, hi, hz0, hz1, hz2⟩ := info_parts Try.info22
  have HI := Lib.hid hi; clear hi
  have HZ0 := Lib.hid hz0; clear hz0
  have HZ1 := Lib.hid hz1; clear hz1
  have HZ2 := Lib.hid hz2; clear hz2
  have H0 := Lib.hid h0; clear h0
  have H1 := Lib.hid h1; clear h1
  have E0 := Lib.hid e0; clear e0
  have E1 := Lib.hid e1; clear e1
  go_enter Try.func5, Try.ntmps5
  go_wp2_with fail
  refine (awake5_any w).mono ?_
  rintro e w1 ⟨rfl, hb⟩
  have HF1 := Lib.hid (Frm.ofBelow hb); clear hb
  go_wp2_with fail
  refine (new_ok 1048576 _ (by omega)).mono ?_
  rintro e w2 ⟨rfl, hd, hf, hz⟩
  have hsz := HF1.out.size
  obtain ⟨p, hp⟩ : ∃ p, p = w1.heap.size := ⟨_, rfl⟩
  rw [← hp] at hd hsz ⊢
  have HD2 := Lib.hid hd
  have HF2 := Lib.hid (HF1.out.trans hf (U := []) (by simp) (by simp))
  clear hd hf hz hp HF1
  go_wp2_with fail
  refine (jopen_any HD2.out).mono ?_
  rintro e w6 ⟨q, F6, ao, co, vo, rfl, op6⟩
  have hd6 := op6.dk
  rw [recs_nil.2] at hd6
  have HD6 : Hid (Dk w6 p p F6 [] 0 1048576) := hd6
  have HJ6 := Lib.hid op6.jn
  have HF6 := Lib.hid (HF2.out.dk hsz HD2.out op6.frm)
  obtain ⟨r, hr⟩ : ∃ r, r = (recs []).length := ⟨_, rfl⟩
  rw [← hr]
  clear op6 hd6 hr HF2 HD2
  -- the two rows, one behind the other
  obtain ⟨v0, hv0, he0, _⟩ := H0.out.ll
  obtain ⟨v1, hv1, he1, _⟩ := H1.out.ll
  have hfl : Frm [] w (w6.alloc (.cells #[] 22)) := HF6.out.alloc _
  have hwlit : (w6.alloc (.cells #[] 22)).ownsRow w.heap.size 22 1 (.slice (some ⟨w6.heap.size, 0, none⟩) 0 0) 0 [] := World.ownsRow_lit w6 #[] 0 HF6.out.size (by unfold maxLen; omega) rfl
  have OL : OwnL (w6.alloc (.cells #[] 22)) w.heap.size 22 F6 (some ⟨w6.heap.size, 0, none⟩) 0 [] [] := ⟨hwlit, Ents.nil _ _, fun g hg hm => by simp at hg; subst hg; have := (HD6.out.lt _ hm).2; omega⟩
  have HV0 := Lib.hid (hv0.keep hfl (by simp))
  have HV1 := Lib.hid hv1
  have HE0 : Hid (Ents (w6.alloc (.cells #[] 22)) (blk (some ⟨w6.heap.size, 0, none⟩) ++ F6) v0 M) := Lib.hid (he0.keep hfl (by simp) (fun x hx => by
    right
    rcases List.mem_append.1 hx with h | h
    · simp at h; have := HF6.out.size; omega
    · have := (HD6.out.lt x h).1; omega))
  have HE1 := Lib.hid he1
  have hl0 : n0 = v0.length := by rw [he0.len]; exact E0.out
  have hl1 : n1 = v1.length := by rw [he1.len]; exact E1.out
  have HL0 := Lib.hid hl0
  have HL1 := Lib.hid hl1
  have HWL := Lib.hid hwlit
  have HOL := Lib.hid OL
  have HFL := Lib.hid hfl
  clear hv0 he0 hv1 he1 hfl hwlit OL hl0 hl1
  have hfit0 : 0 + n0 ≤ 1000000000 := by omega
  go_wp2_with (at_builtin; refine wpList_appV rfl (.tmp 47) (.tmp 48) 31 rfl w.heap.size 22 i0 (.slice none 0 0) 24 Try.underlying31 HI.out HZ0.out rfl HZ1.out HZ2.out (by decide) (.slice (some ⟨w6.heap.size, 0, none⟩) 0 0) 0 [] rfl HWL.out _ n0 c0 v0 rfl HV0.out HL0.out HE0.out.one' H0.out.nil hfit0 HFL.out.size ?_)
  intro aA cA wA happ
  obtain ⟨g1, g2, g3, g4⟩ := HOL.out.app rfl HE0.out E0.out (fun x hx => by have := (HD6.out.lt x hx).2; simp; omega) happ
  rw [List.nil_append] at g1
  have hfA : Frm [] w6 wA := ((Frm.refl [] w6).alloc (.cells #[] 22)).trans g2 (U := []) (by simp) (fun x hx => .inr (by simp at hx; omega))
  have HFA := Lib.hid (HF6.out.trans hfA (U := []) (by simp) (by simp))
  have HOA := Lib.hid g1
  have HDA := Lib.hid (HD6.out.keep hfA (by simp))
  have HJA := Lib.hid (HJ6.out.keep hfA (by simp))
  clear happ g1 g2 g3 g4 hfA HV0 HE0 HL0 HWL HOL HFL HD6 HJ6 HF6 hfit0
  have HV1A := Lib.hid (HV1.out.keep HFA.out (by simp))
  have HE1A : Hid (Ents wA (blk aA ++ F6) v1 N) := Lib.hid (HE1.out.keep HFA.out (by simp) (fun x hx => by
    right
    rcases List.mem_append.1 hx with h | h
    · exact (HOA.out.blk_lt x h).1
    · have := (HDA.out.lt x h).1; omega))
  have HWA := Lib.hid HOA.out.own
  rw [← E0.out] at HWA
  have hfit1 : n0 + n1 ≤ 1000000000 := by omega
  go_wp2_with (at_builtin; refine wpList_appV rfl (.tmp 49) (.tmp 50) 31 rfl w.heap.size 22 i0 (.slice none 0 0) 24 Try.underlying31 HI.out HZ0.out rfl HZ1.out HZ2.out (by decide) (.slice aA n0 cA) n0 _ rfl HWA.out _ n1 c1 v1 rfl HV1A.out HL1.out HE1A.out.one' H1.out.nil hfit1 HFA.out.size ?_)
  intro aB cB wB happ
  obtain ⟨g1, g2, g3, g4⟩ := HOA.out.app E0.out HE1A.out E1.out (fun x hx => (HDA.out.lt x hx).2) happ
  have hL := (H0.out.ll)
  obtain ⟨L, hL⟩ : ∃ L, L = M ++ N := ⟨_, rfl⟩
  obtain ⟨n, hn⟩ : ∃ n, n = n0 + n1 := ⟨_, rfl⟩
  rw [← hL] at g1 g4
  have hn60 : n ≤ 60 := by omega
  have h0n : n0 ≤ n := by omega
  have hnd : ∀ x ∈ F6, x ∉ blk aA := fun x hx hm => HOA.out.away x hm hx
  have hFB : Frm [] w wB := HFA.out.trans g2 (U := []) (by simp) (fun x hx => .inr (HOA.out.blk_lt x hx).1)
  have C0 : CrIn w wB p q aB L n0 0 F6 none 0 [] := ⟨by simpa [allF] using HDA.out.keep g2 hnd, HJA.out.keep g2 (HOA.out.notin HJA.out (by decide)), OwnL.nil _ _ _ _, g1.ll.less (fun x hx => .inl (by simpa using hx)), hFB, by simp⟩
  have HC0 := Lib.hid (show CrRel w p q aB L n0 (.slice none 0 0) (.int .i64 0) (.int .i64 0) wB from ⟨0, F6, none, 0, [], Nat.zero_le _, rfl, by simp, rfl, C0⟩)
  have HLN : Hid (n = L.length) := Lib.hid (by rw [hn]; exact g4)
  have HL := Lib.hid hL
  have hn' : n0 + n1 = n := hn.symm
  clear happ g1 g2 g3 g4 hL hn hnd hFB C0 HV1 HE1 HV1A HE1A HL1 HWA HDA HJA HOA HFA hfit1
  go_wp2_with fail
  rw [hn']
  clear hn'
  go_loopw [14, 15, 53] (fun u14 u15 u53 wr => CrRel w p q aB L n0 u14 u15 u53 wr) (fun _ _ u53 _ => n - (intOf u53).toNat)
  case atStart => exact HC0.out
  case round =>
    obtain ⟨k, F, a, c, vs, hk, rfl, rfl, rfl, C⟩ := hrel
    have HC := Lib.hid C; clear C
    by_cases hlt : k < n
    · have hkL : k < L.length := by have := HLN.out; omega
      obtain ⟨bb, oo, rfl, ai, ci, hcell, hbi, hap, hni⟩ := HC.out.all.at hkL
      obtain ⟨b, hb⟩ : ∃ b, b = L.getD k [] := ⟨_, rfl⟩
      rw [← hb] at hcell hbi hap
      obtain ⟨nb, hnb⟩ : ∃ nb, nb = b.length := ⟨_, rfl⟩
      rw [← hnb] at hcell
      have hnb63 : nb ≤ 9223372036854775807 := by rw [hnb]; exact hbi.2.1
      have HBI := Lib.hid hbi; clear hbi
      have HAP := Lib.hid hap; clear hap
      have HNI := Lib.hid hni; clear hni
      have HB := Lib.hid hb; clear hb
      have HNB := Lib.hid hnb; clear hnb
      have HKL := Lib.hid hkL; clear hkL hk
      by_cases hbig : 1000 < nb
      · go_wp2
        go_ret
        exact ⟨rfl, HC.out.frm.new⟩
      · have hbs : b.length ≤ 1000 := by have := HNB.out; omega
        have hlen : (allF (L.take k)).length ≤ 60480 := by
          have h1 := allF_len HC.out.small
          rw [List.length_take] at h1
          have := HLN.out; omega
        have hjc : jc (allF (L.take k)) b 1048576 = 0 := by
          unfold jc
          rw [if_neg (by omega), if_neg (by omega)]
        have hall : allF (L.take (k + 1)) = allF (L.take k) ++ fr b := by rw [take_one HKL.out, ← HB.out, allF_append, allF_one]
        have hjl : jl (allF (L.take k)) b 1048576 = allF (L.take (k + 1)) := by unfold jl; rw [if_pos hjc, hall]
        have HJC := Lib.hid hjc
        have HJL := Lib.hid hjl
        have HBS := Lib.hid hbs
        clear hlen
        obtain ⟨t, ht⟩ : ∃ t, t = min k n0 := ⟨_, rfl⟩
        rw [← ht]
        have htn : t ≤ n0 := by omega
        have HT := Lib.hid ht; clear ht
        by_cases hw : k < n0
        · have hjs : js (allF (L.take k)) b (allF ((L.take k).take n0)).length 1048576 = (allF ((L.take (k + 1)).take n0)).length := by
            unfold js
            rw [if_pos hjc, ← hall, List.take_of_length_le (l := L.take (k + 1)) (by rw [List.length_take]; omega)]
          have HJS := Lib.hid hjs
          clear hjs hjc hall hjl hbs
          go_wp2_with fail
          refine (jwrite_any ai nb ci b HC.out.dk HC.out.jn HBI.out HNB.out HNI.out).mono ?_
          rintro e w1 ⟨rfl, hd1⟩
          rw [HJL.out, HJS.out] at hd1
          rw [HJC.out]
          obtain ⟨F1, m1, m2, m3, m4, m5, m6, m7⟩ := HC.out.mid hsz hd1
          obtain ⟨w2, hw2⟩ : ∃ w2, w2 = w1.alloc (.cells #[.slice ai nb ci] 22) := ⟨_, rfl⟩
          have hf2 : Frm [] w1 w2 := by rw [hw2]; exact (Frm.refl _ _).alloc _
          have ho2 := m3.keep (F' := F1) hf2 (by simp) (fun x h => .inl h)
          have he2 : Ents w2 (blk a ++ F1) [.slice ai nb ci] [b] := by
            refine Ents.sole (hf2.bytes (m6.bytes' HBI.out (fun hne x hx hm => HAP.out hne x hx (by simp [hm]))) (by simp)) HNB.out HNI.out (fun hne x hx hm => ?_)
            rcases List.mem_append.1 hm with h | h
            · exact HAP.out hne x hx (by simp [h])
            · rcases m7 _ h with h2 | h2
              · exact HAP.out hne x hx (by simp [h2])
              · have := bytes_lt HBI.out hne x hx; omega
          have hv2 : ValsAt w2 (some ⟨w1.heap.size, 0, none⟩) [.slice ai nb ci] := by rw [hw2]; exact ValsAt.one _ _ _
          have hkl : k = (L.take k).length := by rw [List.length_take]; have := HKL.out; omega
          have ho2' := ho2.own
          rw [← hkl] at ho2'
          have hb2 : w.heap.size ≤ w2.heap.size := Nat.le_trans m5.size hf2.size
          have hF2 : ∀ x ∈ F1, x < w2.heap.size := fun x hx => Nat.lt_of_lt_of_le (m1.lt x hx).2 hf2.size
          have HO2 := Lib.hid ho2
          have HOW := Lib.hid ho2'
          have HE2 := Lib.hid he2
          have HV2 := Lib.hid hv2
          have HB2 := Lib.hid hb2
          have HF2 := Lib.hid hF2
          have HK := Lib.hid hkl
          have M1 := Lib.hid m1
          have M2 := Lib.hid m2
          have M3 := Lib.hid m3
          have M4 := Lib.hid m4
          have M5 := Lib.hid m5
          have HW2 := Lib.hid hw2
          have hfit : k + 1 ≤ 1000000000 := by omega
          clear m1 m2 m3 m4 m5 m6 m7 hw2 hf2 ho2 he2 hv2 hkl ho2' hb2 hF2 hd1
          go_wp2_with (at_builtin; rw [← HW2.out]; refine wpList_appV rfl (.tmp 73) (.tmp 75) 31 rfl w.heap.size 22 i0 (.slice none 0 0) 24 Try.underlying31 HI.out HZ0.out rfl HZ1.out HZ2.out (by decide) (.slice a k c) k vs rfl HOW.out _ 1 1 _ rfl HV2.out rfl HE2.out.one' (fun h => by cases h) hfit HB2.out ?_)
          intro a3 c3 w3 happ
          obtain ⟨g1, g2, g3, g4⟩ := HO2.out.app HK.out HE2.out rfl HF2.out happ
          have hfin := Lib.hid (CrIn.fin (wn := n0) (X := some ⟨bb, oo, none⟩) HKL.out HB.out.symm M1.out M2.out M3.out M4.out M5.out HC.out.small HBS.out g1 (HW2.out ▸ g2) (HW2.out ▸ g3))
          clear happ g1 g2 g3 g4 HO2 HOW HE2 HV2 HB2 HF2 M1 M2 M3 M4 M5 HW2
          go_wp2
          go_round
          case rel => exact ⟨k + 1, F1, a3, c3, _, HKL.out, by rfl, same_int (by have := HT.out; omega), by go_num, hfin.out⟩
          case measure => simp [intOf]; omega
        · have hjs : (L.take (k + 1)).take n0 = (L.take k).take n0 := by
            rw [List.take_take, List.take_take, Nat.min_eq_left (by omega), Nat.min_eq_left (by omega)]
          have HJS := Lib.hid hjs
          clear hjs hjc hall hjl hbs
          go_wp2_with fail
          refine (jlay_any ai nb ci b HC.out.dk HC.out.jn HBI.out HNB.out HNI.out).mono ?_
          rintro e w1 ⟨rfl, hd1⟩
          rw [HJL.out, ← HJS.out] at hd1
          rw [HJC.out]
          obtain ⟨F1, m1, m2, m3, m4, m5, m6, m7⟩ := HC.out.mid hsz hd1
          obtain ⟨w2, hw2⟩ : ∃ w2, w2 = w1.alloc (.cells #[.slice ai nb ci] 22) := ⟨_, rfl⟩
          have hf2 : Frm [] w1 w2 := by rw [hw2]; exact (Frm.refl _ _).alloc _
          have ho2 := m3.keep (F' := F1) hf2 (by simp) (fun x h => .inl h)
          have he2 : Ents w2 (blk a ++ F1) [.slice ai nb ci] [b] := by
            refine Ents.sole (hf2.bytes (m6.bytes' HBI.out (fun hne x hx hm => HAP.out hne x hx (by simp [hm]))) (by simp)) HNB.out HNI.out (fun hne x hx hm => ?_)
            rcases List.mem_append.1 hm with h | h
            · exact HAP.out hne x hx (by simp [h])
            · rcases m7 _ h with h2 | h2
              · exact HAP.out hne x hx (by simp [h2])
              · have := bytes_lt HBI.out hne x hx; omega
          have hv2 : ValsAt w2 (some ⟨w1.heap.size, 0, none⟩) [.slice ai nb ci] := by rw [hw2]; exact ValsAt.one _ _ _
          have hkl : k = (L.take k).length := by rw [List.length_take]; have := HKL.out; omega
          have ho2' := ho2.own
          rw [← hkl] at ho2'
          have hb2 : w.heap.size ≤ w2.heap.size := Nat.le_trans m5.size hf2.size
          have hF2 : ∀ x ∈ F1, x < w2.heap.size := fun x hx => Nat.lt_of_lt_of_le (m1.lt x hx).2 hf2.size
          have HO2 := Lib.hid ho2
          have HOW := Lib.hid ho2'
          have HE2 := Lib.hid he2
          have HV2 := Lib.hid hv2
          have HB2 := Lib.hid hb2
          have HF2 := Lib.hid hF2
          have HK := Lib.hid hkl
          have M1 := Lib.hid m1
          have M2 := Lib.hid m2
          have M3 := Lib.hid m3
          have M4 := Lib.hid m4
          have M5 := Lib.hid m5
          have HW2 := Lib.hid hw2
          have hfit : k + 1 ≤ 1000000000 := by omega
          clear m1 m2 m3 m4 m5 m6 m7 hw2 hf2 ho2 he2 hv2 hkl ho2' hb2 hF2 hd1
          go_wp2_with (at_builtin; rw [← HW2.out]; refine wpList_appV rfl (.tmp 73) (.tmp 75) 31 rfl w.heap.size 22 i0 (.slice none 0 0) 24 Try.underlying31 HI.out HZ0.out rfl HZ1.out HZ2.out (by decide) (.slice a k c) k vs rfl HOW.out _ 1 1 _ rfl HV2.out rfl HE2.out.one' (fun h => by cases h) hfit HB2.out ?_)
          intro a3 c3 w3 happ
          obtain ⟨g1, g2, g3, g4⟩ := HO2.out.app HK.out HE2.out rfl HF2.out happ
          have hfin := Lib.hid (CrIn.fin (wn := n0) (X := some ⟨bb, oo, none⟩) HKL.out HB.out.symm M1.out M2.out M3.out M4.out M5.out HC.out.small HBS.out g1 (HW2.out ▸ g2) (HW2.out ▸ g3))
          clear happ g1 g2 g3 g4 HO2 HOW HE2 HV2 HB2 HF2 M1 M2 M3 M4 M5 HW2
          go_wp2
          go_round
          case rel => exact ⟨k + 1, F1, a3, c3, _, HKL.out, by rfl, same_int (by have := HT.out; omega), by go_num, hfin.out⟩
          case measure => simp [intOf]; omega
    · obtain rfl : k = n := by have := HLN.out; omega
      have hM : L.take n0 = M := by rw [HL.out, E0.out, List.take_left' rfl]
      have hLk : L.take k = L := List.take_of_length_le (by have := HLN.out; omega)
      have h8 : ∀ b ∈ L, ∀ c ∈ b, c < 256 := fun b hb => HC.out.all.byte hb
      have hsm := HC.out.small
      rw [hLk] at hsm
      have hfit : Fit L := small_fit hsm (by omega) h8
      have hfM : Fit M := fun b hb => hfit b (by rw [HL.out]; simp [hb])
      have hfN : Fit N := fun b hb => hfit b (by rw [HL.out]; simp [hb])
      have hd := HC.out.dk
      rw [hLk, hM] at hd
      have hrow := HC.out.row
      rw [hLk] at hrow
      have hrc := recs_crashed M N keep bit hfM hfN
      rw [← HL.out] at hrc
      have hmin : min k n0 = n0 := by omega
      rw [hmin]
      have HD := Lib.hid hd
      have HRW := Lib.hid hrow
      have HRC := Lib.hid hrc
      have HFR := Lib.hid HC.out.frm
      clear hd hrow hrc hM hLk h8 hsm hfit hfM hfN hmin HC hlt hk
      go_wp2_with fail
      refine (crash_any keep bit HD.out).mono ?_
      rintro e w1 ⟨rfl, F1, hd1, hf1, hx1⟩
      have HF1 := Lib.hid (HFR.out.dk hsz HD.out hf1)
      have HD1 := Lib.hid hd1
      have HR1 := Lib.hid (HRW.out.keep (F' := F1) hf1 (fun x h => .inl h) hx1)
      clear hd1 hf1 hx1 HD HRW HFR
      go_wp2_with fail
      refine (jopen_any HD1.out).mono ?_
      rintro e w2 ⟨q2, F2, a2, c2, v2, rfl, op2⟩
      obtain ⟨j, hj, hrec⟩ := HRC.out
      have hlr : recs (crashed (allF L) (allF M).length keep bit) = L.take (n0 + j) := by
        rw [hrec, HL.out, E0.out, List.take_length_add_append]
      have hlen : (L.take (n0 + j)).length = n0 + j := by
        rw [List.length_take]
        have h1 := HLN.out
        have h2 : L.length = M.length + N.length := by rw [HL.out, List.length_append]
        have := E0.out
        omega
      have hjk : n0 + j ≤ k := by
        have h2 : L.length = M.length + N.length := by rw [HL.out, List.length_append]
        have := HLN.out; have := E0.out; omega
      have hown := op2.own
      rw [hlr] at hown ⊢
      rw [hlen]
      obtain ⟨m, hm⟩ : ∃ m, m = n0 + j := ⟨_, rfl⟩
      rw [← hm] at hown hjk hlen ⊢
      have hnm : n0 ≤ m := by omega
      have hr2 := HR1.out.keep (F' := F2) op2.frm (fun x h => .inl h) op2.new
      have hcap : m ≤ c := Nat.le_trans (by have := HLN.out; omega) HR1.out.caps.1
      have hcut := fun w => run_head_h Try.underlying31 sizeL w a k c m hcap
      have S1 := Lib.hid hown.ll
      have S2 := Lib.hid (hr2.ll.take m)
      have HLM := Lib.hid hlen.symm
      have HF2 := Lib.hid (HF1.out.dk hsz HD1.out op2.frm)
      have hm63 : m ≤ 9223372036854775807 := by omega
      clear hj hrec hlr hlen hown hr2 hcap op2 hm HF1 HD1 HR1 HRC
      go_wp2_with fail
      refine (same_true _ _ _ _ _ _ _ _ _ S1.out S2.out HLM.out hm63).mono ?_
      rintro e w3 ⟨rfl, d, rfl⟩
      go_wp2
      go_ret
      exact ⟨rfl, (HF2.out.drewN d).new⟩

theorem journalCrash_walk (a0 : Option Addr) (n0 c0 : Nat) (M : List (List Nat)) (a1 : Option Addr) (n1 c1 : Nat) (N : List (List Nat)) (keep bit : Int) (w : World) (h0 : LIn w a0 c0 M) (e0 : n0 = M.length) (f0 : n0 ≤ 9223372036854775807) (h1 : LIn w a1 c1 N) (e1 : n1 = N.length) (f1 : n1 ≤ 9223372036854775807) (_k : (Lit.int .i64 keep).wf = true) (_b : (Lit.int .i64 bit).wf = true) :
    Calls Try.prog 5 #[.slice a0 n0 c0, .slice a1 n1 c1, .int .i64 keep, .int .i64 bit] w fun e w' => e = .returned (.bool true) ∧ Below w.heap.size w w' := by
  by_cases h : 30 < n0 ∨ 30 < n1
  · exact journalCrash_many a0 n0 c0 a1 n1 c1 keep bit w h f0 f1
  · exact journalCrash_main a0 n0 c0 M a1 n1 c1 N keep bit w h0 e0 h1 e1 (by omega) (by omega)
end Go.Proofs.Yteidfplenleogaa
