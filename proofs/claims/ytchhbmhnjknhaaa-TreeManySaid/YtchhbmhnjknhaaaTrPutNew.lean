/- Contract of the program's Put of a new key. -/
import Derived.Test.YtchhbmhnjknhaaaTrPut
namespace Go.Proofs.Ytchhbmhnjknhaaa
open Go.RowKit

set_option maxRecDepth 100000 in
set_option maxHeartbeats 4000000 in
theorem put_new {w : World} {B p : Nat} {F : List Nat} {a : Option Addr} {cap : Nat} {L : List Nx} {qs : List Nat} (s : ByteArray) (va : Option Addr) (vn vc : Nat) (v : List Nat) (own ix nv : Nat) (h : Pt w B p F a cap L qs) (hS : Srt (nds L)) (hF : ∀ x ∈ F, x < w.heap.size)
    (hb : Bytes w va v) (hv : vn = v.length) (hvn : va = none → vc = 0) (hl : lenC s.size vn = 0) (hown : own < 18446744073709551616) (hn0 : isN (nds L) s = false) (hfew : L.length < 256) (hix : ix = ixN (nds L) s) (hnv : nv = 1) :
    Calls Try.prog 13 #[.pointer (some ⟨p, 0, none⟩), .string s, .slice va vn vc, .int .u64 0, .int .u64 (own : Nat)] w (PtEnd w B p F ((nds L).take ix ++ ⟨s, v, nv, own⟩ :: (nds L).drop (ix)) (.tuple #[.int .u64 (nv : Nat), .int .i64 0])) := by
  have hlen : 1 ≤ s.size ∧ s.size ≤ 64 ∧ vn ≤ 3840 := by
    unfold lenC at hl
    split at hl
    · omega
    · split at hl <;> omega
  obtain ⟨_, hs64, hv38⟩ := hlen
  have HL := Lib.hid (lengths_any s va vn vc w (by omega) (by omega))
  rw [hl] at HL
  have HFI := Lib.hid (find_any s h hS)
  have HUN := Lib.hid (unwanted_any s 0 h)
  have hunw : unwC (nds L) s 0 = 0 := by unfold unwC; rw [if_neg (by rw [hn0]; simp), if_neg (by omega), if_neg (by rw [nds_len']; omega)]
  have his := hn0
  have hixl : ix ≤ L.length := by rw [hix, ← nds_len']; exact ixN_le _ _
  rw [hunw] at HUN
  rw [his] at HFI HUN
  rw [← hix] at HFI HUN
  have hcap : L.length ≤ cap := h.lcap
  have hmcap := h.mcap
  unfold maxLen at hmcap
  have hto : ix ≤ L.length := by omega
  obtain ⟨n, hnn⟩ : ∃ n, n = L.length := ⟨_, rfl⟩
  have hn : n ≤ 256 := by rw [hnn]; exact h.few
  have c0 := h.tree.cell 0
  rw [← hnn] at c0
  simp at c0
  rw [← hnn] at hcap hto
  have HH := Lib.hid h
  have HB := Lib.hid hb
  have HV := Lib.hid hv
  have HN := Lib.hid hnn
  have HFF := Lib.hid hF
  have HOWN := Lib.hid hown
  have HNV : Hid (nv < 18446744073709551616) := Lib.hid (by omega)
  have HAL := Lib.hid (alone_any s va vn vc nv own v w hb hv hvn (by omega) (by omega))
  rw [show ((0 : Nat) : Int) = 0 from rfl] at HUN
  have hnvi : (nv : Int) = 1 := by omega
  rw [hnvi] at HAL
  have hcut1 := fun w => run_head_h (P := Try.prog) Try.underlying63 sizeP w a n cap ix (by omega)
  have hcut2 := fun w => run_cut1 (P := Try.prog) Try.underlying63 sizeP w a n cap (ix) (ix : Int) (by omega) hto
  obtain ⟨a2, ha2⟩ : ∃ a2, a2 = cut1 a cap (ix) := ⟨_, rfl⟩
  obtain ⟨n2, hn2⟩ : ∃ n2, n2 = n - (ix) := ⟨_, rfl⟩
  obtain ⟨c2, hc2⟩ : ∃ c2, c2 = cap - (ix) := ⟨_, rfl⟩
  rw [← ha2, ← hn2, ← hc2] at hcut2
  have HP1 : Hid (PSlIn w ⟨a, cap, (qs.map ptr).take ix⟩) := Lib.hid ⟨h.ptrs.take ix, h.nil, by simp [h.len, ← hnn]; omega, by show cap ≤ _; omega, fun u hu => ptr_one qs u (List.mem_of_mem_take hu)⟩
  have HP2 : Hid (PSlIn w ⟨a2, c2, (qs.map ptr).drop (ix)⟩) := Lib.hid ⟨by rw [ha2]; exact h.ptrs.drop (by simp [h.len, ← hnn]; omega) _, fun h0 => by rw [hc2]; exact cut1_none h.nil (by rw [← ha2]; exact h0), by simp [h.len, ← hnn]; omega, by show c2 ≤ _; omega, fun u hu => ptr_one qs u (List.mem_of_mem_drop hu)⟩
  have HL1 : Hid (((qs.map ptr).take ix).length = ix) := Lib.hid (by simp [h.len, ← hnn]; omega)
  have HL2 : Hid (((qs.map ptr).drop (ix)).length = n2) := Lib.hid (by simp [h.len, ← hnn]; omega)
  have hn2n : ix + 1 + n2 ≤ n + 1 := by omega
  have HCNT : Hid (ix + 1 + n2 ≤ 256) := Lib.hid (by omega)
  have HN2 : Hid (n2 = n - (ix)) := Lib.hid hn2
  clear h hS hF hb hv hvn hl hown hnn ha2 hc2 hn2 his hunw hix hn0 hfew hnvi hnv
  go_enter Try.func13, Try.ntmps13
  go_wp2_with fail
  (with_reducible refine HL.out.mono ?_)
  rintro e w' ⟨rfl, rfl⟩
  go_wp2_with fail
  (with_reducible refine HFI.out.mono ?_)
  rintro e w' ⟨rfl, rfl⟩
  go_wp2_with fail
  (with_reducible refine HUN.out.mono ?_)
  rintro e w' ⟨rfl, rfl⟩
  go_wp2_with fail
  (with_reducible refine HAL.out.mono ?_)
  rintro e w5 ⟨av, cv, rfl, hbv, hvnil, hvl, hf5⟩
  clear HL HFI HUN HAL
  obtain ⟨q, hq⟩ : ∃ q, q = w5.heap.size := ⟨_, rfl⟩
  obtain ⟨w6, hw6⟩ : ∃ w6, w6 = w5.alloc (.cells #[.string s, .slice av vn cv, .int .u64 (nv : Nat), .int .u64 (own : Nat)] 44) := ⟨_, rfl⟩
  have hW6 := Whole.made w5 44 #[.string s, .slice av vn cv, .int .u64 (nv : Nat), .int .u64 (own : Nat)]
  rw [← hw6, ← hq] at hW6
  have hf6 : Frm [] w w6 := by rw [hw6]; exact hf5.alloc _
  have hbv6 : Bytes w6 av v := by rw [hw6]; exact ((Frm.refl [] w5).alloc _).bytes hbv (by simp)
  have hq6 : w.heap.size ≤ q := by rw [hq]; exact hf5.size
  have c6 := (hf6.whole HH.out.tree (by simp)).cell 0
  rw [← HN.out] at c6
  simp at c6
  have HQ := Lib.hid hq
  have HW6 := Lib.hid hw6
  have HX6 := Lib.hid hW6
  have HF6 := Lib.hid hf6
  have HBV := Lib.hid hbv6
  have HVN := Lib.hid hvnil
  have HVL := Lib.hid hvl
  clear hbv hvnil hvl hf5 hq hw6 hW6 hf6 hbv6
  go_wp2
  rw [← HW6.out, ← HQ.out]
  obtain ⟨w7, hw7⟩ : ∃ w7, w7 = ((w6.alloc (.cells #[.pointer (some ⟨q, 0, none⟩)] 71)).alloc (.cells #[.slice a ix cap, .slice (some ⟨w6.heap.size, 0, none⟩) 1 1, .slice a2 n2 c2] 63)).drew := ⟨_, rfl⟩
  have hf67 : Frm [] w6 w7 := by rw [hw7]; exact (((Frm.refl [] w6).alloc _).alloc _).drew
  have hlit : Whole w7 w6.heap.size 71 #[ptr q] := by
    have h1 := Whole.made w6 71 #[ptr q]
    rw [hw7]; exact (h1.alloc _).drew
  have hsls : PSlsIn w7 (w6.heap.size + 1) [⟨a, cap, (qs.map ptr).take ix⟩, ⟨some ⟨w6.heap.size, 0, none⟩, 1, [ptr q]⟩, ⟨a2, c2, (qs.map ptr).drop (ix)⟩] := by
    have h1 := (Whole.made (w6.alloc (.cells #[.pointer (some ⟨q, 0, none⟩)] 71)) 63 #[.slice a ix cap, .slice (some ⟨w6.heap.size, 0, none⟩) 1 1, .slice a2 n2 c2]).drew
    rw [← hw7] at h1
    have e1 : (w6.alloc (.cells #[.pointer (some ⟨q, 0, none⟩)] 71)).heap.size = w6.heap.size + 1 := by simp
    rw [e1] at h1
    have hff := HF6.out.trans hf67 (U := []) (by simp) (by simp)
    have s1 : PSlIn w7 ⟨some ⟨w6.heap.size, 0, none⟩, 1, [ptr q]⟩ := by
      refine ⟨.inr ⟨_, _, rfl, fun i u hu => ?_⟩, (fun h => by cases h), Nat.le_refl _, (show (1 : Nat) ≤ _ by omega), fun u hu => by simp at hu; subst hu; rfl⟩
      rw [hlit.cell, Nat.zero_add]; simpa using hu
    intro k hk
    have hk3 : k = 0 ∨ k = 1 ∨ k = 2 := by simp at hk; omega
    rcases hk3 with rfl | rfl | rfl
    · exact ⟨by rw [h1.cell]; simp [List.getD]; have h2 := HL1.out; rw [List.length_take, List.length_map] at h2; omega, HP1.out.keep hff⟩
    · exact ⟨by rw [h1.cell]; rfl, s1⟩
    · exact ⟨by rw [h1.cell]; simp [List.getD]; have h2 := HL2.out; rw [List.length_drop, List.length_map] at h2; omega, HP2.out.keep hff⟩
  have hall : pall [⟨a, cap, (qs.map ptr).take ix⟩, ⟨some ⟨w6.heap.size, 0, none⟩, 1, [ptr q]⟩, ⟨a2, c2, (qs.map ptr).drop (ix)⟩] = (qs.take ix ++ q :: qs.drop (ix)).map ptr := by
    simp [pall, List.map_take, List.map_drop]
  have hcat := concatP_any hsls (n := 3) rfl (by omega) (by rw [hall]; simp [HH.out.len, ← HN.out]; omega)
  rw [hall] at hcat
  have hlq : ((qs.take ix ++ q :: qs.drop (ix)).map ptr).length = ix + 1 + n2 := by
    have h1 := HL1.out; have h2 := HL2.out
    simp at h1 h2 ⊢
    omega
  have HLQ := Lib.hid hlq
  have HF7 := Lib.hid (HF6.out.trans hf67 (U := []) (by simp) (by simp))
  have HLX := Lib.hid (HX6.out.lt)
  have HF67 := Lib.hid hf67
  have c7 := ((HF6.out.alloc (.cells #[.pointer (some ⟨q, 0, none⟩)] 71)).whole HH.out.tree (by simp)).cell 0
  rw [← HN.out] at c7
  simp at c7
  rw [hw7] at hcat
  have HCA := Lib.hid hcat
  have HW7 := Lib.hid hw7
  clear hcat hlq hall hsls hlit hf67 hw7
  go_region_law (go_simp; go_at_call 33; (with_reducible refine HCA.out.mono ?_); rintro e w9 ⟨a9, c9, rfl, ho9, hf9⟩; rw [← HW7.out] at hf9 ho9; rw [HLQ.out]; have hf79 := Lib.hid (HF7.out.trans hf9 (U := []) (by simp) (by simp)); have hO9 := Lib.hid ho9; have hF9 := Lib.hid hf9; have c9p := (hf79.out.whole HH.out.tree (by simp)).cell 0; rw [← HN.out] at c9p; simp at c9p; have f9p := (hf79.out.whole HH.out.tree (by simp)).free 0; clear ho9 hf9)
  all_goals
    have hp79 := HF67.out.trans hF9.out (U := []) (by simp) (by simp)
    have hx9 := hp79.whole HX6.out (by simp)
    have hqp : q ≠ p := by have := HH.out.tree.lt; omega
    have hdone := put_done ix (ix) ⟨⟨s, v, nv, own⟩, av, cv⟩ q HH.out HFF.out hf79.out (by rw [HV.out] at hx9; exact hx9) ⟨hp79.bytes HBV.out (by simp), fun _ x hx hm => (by
      have h1 := HVL.out x hx
      rcases List.mem_cons.1 hm with h2 | h2
      · have := HH.out.tree.lt; omega
      · have := HFF.out _ h2; omega), HVN.out, HNV.out, HOWN.out, (by show s.size ≤ _; omega)⟩ hq6 (OwnP.low hO9.out HF7.out.size) (ix + 1 + n2) (by have := HLQ.out; rwa [List.length_map] at this) HCNT.out
    have HST := Lib.hid hdone
    have cz := (hx9.other (p := ⟨p, 0, none⟩) hqp (.slice a9 (ix + 1 + n2) c9)).cell 2
    simp at cz
    clear hdone hx9 hp79 hqp hf79 hO9 hF9
    go_wp2
    go_ret2
    exact ⟨rfl, HST.out⟩

end Go.Proofs.Ytchhbmhnjknhaaa
