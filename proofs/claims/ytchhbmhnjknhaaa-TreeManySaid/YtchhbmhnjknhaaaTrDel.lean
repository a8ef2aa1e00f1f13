/- Contract of the program's Delete. -/
import Derived.Test.YtchhbmhnjknhaaaTrPut
namespace Go.Proofs.Ytchhbmhnjknhaaa
open Go.RowKit

/-- Which error Delete answers (0: none). -/
def delN (L : List Nd) (s : ByteArray) (want : Nat) : Nat := if isN L s = true then (if (L.getD (ixN L s) default).ver ≠ want then 13 else 0) else 11

set_option maxRecDepth 100000 in
set_option maxHeartbeats 1000000 in
theorem del_bad {w : World} {B p : Nat} {F : List Nat} {a : Option Addr} {cap : Nat} {L : List Nx} {qs : List Nat} (s : ByteArray) (want : Nat) (h : Pt w B p F a cap L qs) (hS : Srt (nds L)) (hc : delN (nds L) s want ≠ 0) :
    Calls Try.prog 15 #[.pointer (some ⟨p, 0, none⟩), .string s, .int .u64 (want : Nat)] w fun e w' => e = .returned (.int .i64 (delN (nds L) s want : Nat)) ∧ w = w' := by
  have HFI := Lib.hid (find_any s h hS)
  have c0 := h.tree.cell 0
  simp at c0
  have hfew := h.few
  obtain ⟨c, hcc⟩ : ∃ c, c = delN (nds L) s want := ⟨_, rfl⟩
  rw [← hcc] at hc ⊢
  unfold delN at hcc
  cases his : isN (nds L) s
  · rw [his, if_neg (by simp)] at hcc
    subst hcc
    rw [his] at HFI
    generalize ixN (nds L) s = ix at HFI
    clear h hc hS c0 his
    go_enter Try.func15, Try.ntmps15
    go_wp2_with fail
    (with_reducible refine HFI.out.mono ?_)
    rintro e w' ⟨rfl, rfl⟩
    go_wp2
    go_ret
    exact ⟨rfl, rfl⟩
  · rw [his, if_pos rfl] at hcc
    rw [his] at HFI
    have hlt : ixN (nds L) s < L.length := by
      obtain ⟨_, _, _, _, h4⟩ := isN_split his
      rwa [nds_len'] at h4
    obtain ⟨b, off, q, rfl, p0, hq, p1, p2, p3, p4, _⟩ := h.at hlt
    have hv : ((nds L).getD (ixN (nds L) s) default).ver = (L.getD (ixN (nds L) s) default).t.ver := by rw [nds_getD]
    rw [hv] at hcc
    generalize (L.getD (ixN (nds L) s) default).t.ver = ver at p3 hcc
    generalize ixN (nds L) s = i at p0 hlt HFI
    obtain ⟨n, hn⟩ : ∃ n, n = L.length := ⟨_, rfl⟩
    rw [← hn] at c0 hfew hlt
    by_cases h3 : ver ≠ want
    · rw [if_pos h3] at hcc
      subst hcc
      have h4 : ((ver : Int) != (want : Int)) = true := by rw [bne_iff_ne]; omega
      clear h his hn hq p1 p2 p4 hv h3 hc hS
      go_enter Try.func15, Try.ntmps15
      go_wp2_with fail
      (with_reducible refine HFI.out.mono ?_)
      rintro e w' ⟨rfl, rfl⟩
      go_wp2
      go_ret
      exact ⟨rfl, rfl⟩
    · rw [if_neg h3] at hcc
      exact absurd hcc hc

/-- Nodes left out of those of the tree. -/
theorem less_done {w w9 : World} {B p : Nat} {F : List Nat} {a a9 : Option Addr} {cap c9 : Nat} {L L' : List Nx} {qs qs' : List Nat} (h : Pt w B p F a cap L qs) (hF : ∀ x ∈ F, x < w.heap.size) (hf : Frm [] w w9)
    (hn : NdsAt w L' qs') (hL : ∀ x ∈ L', x ∈ L) (hq : ∀ x ∈ qs', x ∈ qs) (ho : OwnP w9 w.heap.size a9 c9 (qs'.map ptr)) (m : Nat) (hm : qs'.length = m) (hm2 : m ≤ 256) :
    PtTo w (w9.setCell ⟨p, 0, none⟩ (.slice a9 m c9)) B p F (nds L') := by
  have hnl := hn.keep hf
  have hokL := h.ok.keep (F' := p :: F) hf (by simp) (fun x hx => .inl hx)
  have hml : L'.length = m := by rw [← hnl.1, ← hm]
  have hst := Pt.store h hF hf ho hnl.1 hnl.2 (fun y hy => hokL y (hL y hy)) (fun y hy => h.qout y (hq y hy)) (by rw [hml]; exact hm2)
  rw [hml] at hst
  exact hst

set_option maxRecDepth 100000 in
set_option maxHeartbeats 4000000 in
theorem del_ok {w : World} {B p : Nat} {F : List Nat} {a : Option Addr} {cap : Nat} {L : List Nx} {qs : List Nat} (s : ByteArray) (want ix : Nat) (h : Pt w B p F a cap L qs) (hS : Srt (nds L)) (hF : ∀ x ∈ F, x < w.heap.size)
    (hn0 : isN (nds L) s = true) (hver : ((nds L).getD (ixN (nds L) s) default).ver = want) (hix : ix = ixN (nds L) s) :
    Calls Try.prog 15 #[.pointer (some ⟨p, 0, none⟩), .string s, .int .u64 (want : Nat)] w (PtEnd w B p F ((nds L).take ix ++ (nds L).drop (ix + 1)) (.int .i64 0)) := by
  have HFI := Lib.hid (find_any s h hS)
  rw [hn0, ← hix] at HFI
  have hixl : ix < L.length := by
    obtain ⟨_, _, _, _, h4⟩ := isN_split hn0
    rw [nds_len', ← hix] at h4; exact h4
  obtain ⟨b, off, q0, rfl, r0, hq0, _, _, r3, r4, _⟩ := h.at hixl
  have hver4 : (L.getD ix default).t.ver = want := by rw [← nds_getD, hix]; exact hver
  rw [hver4] at r3
  have hwi : ((want : Int) != (want : Int)) = false := by simp
  have hcap : L.length ≤ cap := h.lcap
  have hmcap := h.mcap
  unfold maxLen at hmcap
  obtain ⟨n, hnn⟩ : ∃ n, n = L.length := ⟨_, rfl⟩
  have hn : n ≤ 256 := by rw [hnn]; exact h.few
  have c0 := h.tree.cell 0
  rw [← hnn] at c0
  simp at c0
  rw [← hnn] at hcap hixl
  have HH := Lib.hid h
  have HN := Lib.hid hnn
  have HFF := Lib.hid hF
  have hsi : IntKind.i64.wrap ((ix : Int) + 1) = (ix : Int) + 1 := IntWalk.i64_in _ (by omega)
  have hcut1 := fun w => run_head_h (P := Try.prog) Try.underlying63 sizeP w (some ⟨b, off, none⟩) n cap ix (by omega)
  have hcut2 := fun w => run_cut1 (P := Try.prog) Try.underlying63 sizeP w (some ⟨b, off, none⟩) n cap (ix + 1) ((ix : Int) + 1) (by omega) (by omega)
  obtain ⟨a2, ha2⟩ : ∃ a2, a2 = cut1 (some ⟨b, off, none⟩) cap (ix + 1) := ⟨_, rfl⟩
  obtain ⟨n2, hn2⟩ : ∃ n2, n2 = n - (ix + 1) := ⟨_, rfl⟩
  obtain ⟨c2, hc2⟩ : ∃ c2, c2 = cap - (ix + 1) := ⟨_, rfl⟩
  rw [← ha2, ← hn2, ← hc2] at hcut2
  have HP1 : Hid (PSlIn w ⟨some ⟨b, off, none⟩, cap, (qs.map ptr).take ix⟩) := Lib.hid ⟨h.ptrs.take ix, h.nil, by simp [h.len, ← hnn]; omega, by show cap ≤ _; omega, fun u hu => ptr_one qs u (List.mem_of_mem_take hu)⟩
  have HP2 : Hid (PSlIn w ⟨a2, c2, (qs.map ptr).drop (ix + 1)⟩) := Lib.hid ⟨by rw [ha2]; exact h.ptrs.drop (by simp [h.len, ← hnn]; omega) _, fun h0 => by rw [hc2]; exact cut1_none h.nil (by rw [← ha2]; exact h0), by simp [h.len, ← hnn]; omega, by show c2 ≤ _; omega, fun u hu => ptr_one qs u (List.mem_of_mem_drop hu)⟩
  have HL1 : Hid (((qs.map ptr).take ix).length = ix) := Lib.hid (by simp [h.len, ← hnn]; omega)
  have HL2 : Hid (((qs.map ptr).drop (ix + 1)).length = n2) := Lib.hid (by simp [h.len, ← hnn]; omega)
  have HCNT : Hid (ix + n2 ≤ 256) := Lib.hid (by omega)
  clear h hS hF hnn ha2 hc2 hn2 hn0 hver hix hver4 r4 hq0
  obtain ⟨w7, hw7⟩ : ∃ w7, w7 = (w.alloc (.cells #[.slice (some ⟨b, off, none⟩) ix cap, .slice a2 n2 c2] 63)).drew := ⟨_, rfl⟩
  have hf67 : Frm [] w w7 := by rw [hw7]; exact ((Frm.refl [] w).alloc _).drew
  have hsls : PSlsIn w7 w.heap.size [⟨some ⟨b, off, none⟩, cap, (qs.map ptr).take ix⟩, ⟨a2, c2, (qs.map ptr).drop (ix + 1)⟩] := by
    have h1 := (Whole.made w 63 #[.slice (some ⟨b, off, none⟩) ix cap, .slice a2 n2 c2]).drew
    rw [← hw7] at h1
    intro k hk
    have hk3 : k = 0 ∨ k = 1 := by simp at hk; omega
    rcases hk3 with rfl | rfl
    · exact ⟨by rw [h1.cell]; simp [List.getD]; have h2 := HL1.out; rw [List.length_take, List.length_map] at h2; omega, HP1.out.keep hf67⟩
    · exact ⟨by rw [h1.cell]; simp [List.getD]; have h2 := HL2.out; rw [List.length_drop, List.length_map] at h2; omega, HP2.out.keep hf67⟩
  have hall : pall [⟨some ⟨b, off, none⟩, cap, (qs.map ptr).take ix⟩, ⟨a2, c2, (qs.map ptr).drop (ix + 1)⟩] = (qs.take ix ++ qs.drop (ix + 1)).map ptr := by
    simp [pall, List.map_take, List.map_drop]
  have hcat := concatP_any hsls (n := 2) rfl (by omega) (by rw [hall]; simp [HH.out.len, ← HN.out]; omega)
  rw [hall] at hcat
  have hlq : ((qs.take ix ++ qs.drop (ix + 1)).map ptr).length = ix + n2 := by
    have h1 := HL1.out; have h2 := HL2.out
    simp at h1 h2 ⊢
    omega
  have HLQ := Lib.hid hlq
  have HF7 := Lib.hid hf67
  rw [hw7] at hcat
  have HCA := Lib.hid hcat
  have HW7 := Lib.hid hw7
  clear hcat hlq hall hsls hf67 hw7
  go_enter Try.func15, Try.ntmps15
  go_wp2_with fail
  (with_reducible refine HFI.out.mono ?_)
  rintro e w' ⟨rfl, rfl⟩
  go_wp2
  go_region_law (go_simp; go_at_call 33; (with_reducible refine HCA.out.mono ?_); rintro e w9 ⟨a9, c9, rfl, ho9, hf9⟩; rw [← HW7.out] at hf9 ho9; rw [HLQ.out]; have hf79 := Lib.hid (HF7.out.trans hf9 (U := []) (by simp) (by simp)); have hO9 := Lib.hid ho9; have c9p := (hf79.out.whole HH.out.tree (by simp)).cell 0; rw [← HN.out] at c9p; simp at c9p; have f9p := (hf79.out.whole HH.out.tree (by simp)).free 0; clear ho9 hf9)
  all_goals
    have hdone := less_done HH.out HFF.out hf79.out ((HH.out.nat.take ix).append (HH.out.nat.drop (ix + 1))) (fun x hx => (by
        rcases List.mem_append.1 hx with h1 | h1
        · exact List.mem_of_mem_take h1
        · exact List.mem_of_mem_drop h1)) (fun x hx => (by
        rcases List.mem_append.1 hx with h1 | h1
        · exact List.mem_of_mem_take h1
        · exact List.mem_of_mem_drop h1)) (OwnP.low hO9.out HF7.out.size) (ix + n2) (by have := HLQ.out; rwa [List.length_map] at this) HCNT.out
    have hnd : nds (L.take ix ++ L.drop (ix + 1)) = (nds L).take ix ++ (nds L).drop (ix + 1) := by simp [nds, List.map_take, List.map_drop]
    rw [hnd] at hdone
    have HST := Lib.hid hdone
    clear hdone hnd hf79 hO9
    go_wp2
    go_ret
    exact ⟨rfl, HST.out⟩
end Go.Proofs.Ytchhbmhnjknhaaa
