/- Contracts of Reader.number: the next bytes as a number, or what is thrown. -/
import Derived.Test.YtpamiglinmfgkaaDoorPkTake
import Derived.Test.YtpamiglinmfgkaaDoorPkValue
import Derived.Laws.CopyOwn
namespace Go.Proofs.YtpamiglinmfgkaaDoor
open Go.RowKit

theorem Rdr.keep {w w' : World} {rb cb db : Nat} {l : List Nat} {S : List Nat} (h : Rdr w rb cb db l) (hf : Frm S w w') (hr : rb ∉ S) (hc : cb ∉ S) (hd : db ∉ S) : Rdr w' rb cb db l := by
  obtain ⟨a, cap, h1, h2, h3, h4, h5, h6, h7, h8, h9⟩ := h
  exact ⟨a, cap, hf.whole h1 hr, hf.whole h2 hc, hf.bytes h3 (fun x hx => by rw [h7 x hx]; exact hd), h4, h5, h6, h7, h8, h9⟩
theorem Thrown.early {w0 w w' : World} {rb cb : Nat} {c : Int} {e : Ending} (h : Thrown w rb cb c e w') (hf : Frm [rb] w0 w) : Thrown w0 rb cb c e w' :=
  ⟨h.1, h.2.1, hf.trans h.2.2 (by simp) (fun x hx => .inl hx)⟩
theorem Thrown.early0 {w0 w w' : World} {rb cb : Nat} {c : Int} {e : Ending} (h : Thrown w rb cb c e w') (hf : Frm [] w0 w) : Thrown w0 rb cb c e w' :=
  ⟨h.1, h.2.1, hf.trans h.2.2 (by simp) (fun x hx => .inl hx)⟩
theorem Rdr.lt {w : World} {rb cb db : Nat} {l : List Nat} (h : Rdr w rb cb db l) : rb < w.heap.size ∧ cb < w.heap.size := by
  obtain ⟨a, cap, h1, h2, _⟩ := h
  exact ⟨h1.lt, h2.lt⟩

set_option maxHeartbeats 1000000 in
theorem rnumber_short {w : World} {rb cb db : Nat} {l : List Nat} (k : Nat) (h : Rdr w rb cb db l) (hk : k = 1 ∨ k = 2 ∨ k = 4 ∨ k = 8) (hl : l.length < k) :
    Calls Tryd.prog 32 #[.pointer (some ⟨rb, 0, none⟩), .int .i64 k] w (Thrown w rb cb 4) := by
  have H := Lib.hid h; clear h
  have z0 : IntKind.i64.wrap 0 = 0 := rfl
  have z4 : IntKind.i64.wrap 4 = 4 := rfl
  have z6 : IntKind.i64.wrap 6 = 6 := rfl
  have z7 : IntKind.i64.wrap 7 = 7 := rfl
  have hf : Frm [] w ((w.alloc (.cells #[.int .u8 0, .int .u8 0, .int .u8 0, .int .u8 0, .int .u8 0, .int .u8 0, .int .u8 0, .int .u8 0] 64)).drew) := ((Frm.refl _ _).alloc _).drew
  have HF := Lib.hid hf; clear hf
  rcases hk with rfl | rfl | rfl | rfl
  all_goals
    go_enter Tryd.func32, Tryd.ntmps32
    go_wp2
    refine wp_region_any (by kernel_rfl) ?_
    change wpAny _ _ _ _ _ _ _ (World.drew _)
    refine wpAny_take (i := 0) (v := ?_) rfl (by kernel_rfl) (by kernel_rfl) (by kernel_rfl) (fun _ _ _ h => h) (Or.inl ⟨by rfl, ?_⟩) ?_
    rotate_left 1
    · intro w; go_simp; try with_reducible rfl
    refine wpAny_take (i := 1) (v := ?_) rfl (by kernel_rfl) (by kernel_rfl) (by kernel_rfl) (fun _ _ _ h => h) (Or.inl ⟨by rfl, ?_⟩) ?_
    rotate_left 1
    · intro w; go_simp; try with_reducible rfl
    refine wpAny_take (i := 2) (v := ?_) rfl (by kernel_rfl) (by kernel_rfl) (by kernel_rfl) (fun _ _ _ h => h) (Or.inl ⟨by rfl, ?_⟩) ?_
    rotate_left 1
    · intro w; go_simp; try with_reducible rfl
    refine wpAny_take (i := 3) (v := ?_) rfl (by kernel_rfl) (by kernel_rfl) (by kernel_rfl) (fun _ _ _ h => h) (Or.inl ⟨by rfl, ?_⟩) ?_
    rotate_left 1
    · intro w; go_simp; try with_reducible rfl
    refine wpAny_take (i := 4) (v := ?_) rfl (by kernel_rfl) (by kernel_rfl) (by kernel_rfl) (fun _ _ _ h => h) (Or.inl ⟨by rfl, ?_⟩) ?_
    rotate_left 1
    · intro w; go_simp; try with_reducible rfl
    refine wpAny_take (i := 5) (v := ?_) rfl (by kernel_rfl) (by kernel_rfl) (by kernel_rfl) (fun _ _ _ h => h) (Or.inl ⟨by rfl, ?_⟩) ?_
    rotate_left 1
    · intro w; go_simp; try with_reducible rfl
    refine wpAny_ready (rs := [6]) (by kernel_rfl) (by simp) ?_
    refine AllReady.cons rfl (fun K hK => ?_) AllReady.nil
    go_simp
    refine (take_short _ (H.out.keep HF.out (by simp) (by simp) (by simp)) hl (by omega)).mono ?_
    rintro e w' ⟨rfl, h1, h2⟩
    exact ⟨rfl, Thrown.early0 ⟨rfl, h1, h2⟩ HF.out⟩

/-- What a call that computes hands back, and what is left then. -/
def Got (w : World) (rb cb db : Nat) (l : List Nat) (k : Nat) (v : Value) (e : Ending) (w' : World) : Prop :=
  e = .returned v ∧ Rdr w' rb cb db (l.drop k) ∧ Frm [rb] w w'

/-- Eight zeros with k bytes laid over their end. -/
theorem splice_eight (k : Nat) (l : List Nat) (hk : k ≤ 8) (hl : l.length = k) : splice [u8v 0, u8v 0, u8v 0, u8v 0, u8v 0, u8v 0, u8v 0, u8v 0] (8 - k) (l.map u8v) = (List.replicate (8 - k) 0 ++ l).map u8v := by
  have e : [u8v 0, u8v 0, u8v 0, u8v 0, u8v 0, u8v 0, u8v 0, u8v 0] = List.replicate 8 (u8v 0) := rfl
  rw [e]
  unfold splice
  rw [List.take_replicate, List.drop_replicate, List.map_append, List.map_replicate, List.length_map, hl, show min (8 - k) 8 = 8 - k by omega, show 8 - (8 - k + k) = 0 by omega]
  simp
theorem eight_named (m : List Nat) (h : m.length = 8) : ∃ c0 c1 c2 c3 c4 c5 c6 c7 : Nat, m = [c0, c1, c2, c3, c4, c5, c6, c7] := by
  match m, h with
  | [c0, c1, c2, c3, c4, c5, c6, c7], _ => exact ⟨_, _, _, _, _, _, _, _, rfl⟩

theorem copy_side {w1 : World} {ta : Option Addr} {m : List Nat} (h : Bytes w1 ta m) (hpos : 0 < (m.map u8v).length) : ∃ ad, ta = some ad ∧ ∀ j v, (m.map u8v)[j]? = some v → w1.cell? (ad.add j) = some v := by
  rcases h.2.2 with h0 | ⟨b, off, ha, hc⟩
  · subst h0; simp at hpos
  · exact ⟨_, ha, Bytes.news hc⟩
theorem Frm.above {w w' : World} {B : Nat} (h : Below B w w') : Frm (List.range' B (w.heap.size - B)) w w' :=
  ⟨h.os, h.tape, h.output, h.size, fun k hk hn => h.block k (by
    rcases Nat.lt_or_ge k B with h1 | h1
    · exact h1
    · exact absurd (List.mem_range'_1.2 ⟨h1, by omega⟩) hn)⟩
/-- Behind the copy and the reckoning: what is left. -/
theorem got_end {w w0 w1 w2 w3 : World} {rb cb db : Nat} {l : List Nat} {k : Nat} {v : Value} (hlt : rb < w.heap.size ∧ cb < w.heap.size) (hdb : db < w.heap.size)
    (h0 : Frm [] w w0) (hr : Rdr w1 rb cb db (l.drop k)) (h1 : Frm [rb] w0 w1) (h2 : Below w.heap.size w1 w2) (h3 : Below w2.heap.size w2 w3) : Got w rb cb db l k v (.returned v) w3 := by
  have h2' := Frm.above h2
  have nm : ∀ x, x < w.heap.size → x ∉ List.range' w.heap.size (w1.heap.size - w.heap.size) := fun x hx hm => by
    have := (List.mem_range'_1.1 hm).1; omega
  refine ⟨rfl, (hr.keep h2' (nm _ hlt.1) (nm _ hlt.2) (nm _ hdb)).keep (Frm.ofBelow h3) (by simp) (by simp) (by simp), ?_⟩
  have a := (h0.trans h1 (U := [rb]) (by simp) (fun x hx => .inl hx))
  have b := a.trans h2' (U := [rb]) (fun x hx => hx) (fun x hx => .inr (List.mem_range'_1.1 hx).1)
  exact b.trans (Frm.ofBelow h3) (fun x hx => hx) (by simp)

set_option maxHeartbeats 2000000 in
theorem rnumber_ok1 {w : World} {rb cb db : Nat} {l : List Nat} (h : Rdr w rb cb db l) (hl : 1 ≤ l.length) (hdb : db < w.heap.size) :
    Calls Tryd.prog 32 #[.pointer (some ⟨rb, 0, none⟩), .int .i64 1] w (Got w rb cb db l 1 (.int .u64 (val (l.take 1) : Nat))) := by
  have hlt := h.lt
  have hm8 : ∀ c ∈ List.replicate (8 - 1) 0 ++ l.take 1, c < 256 := by
    obtain ⟨a, cap, _, _, h3, _⟩ := h
    intro c hc
    rcases List.mem_append.1 hc with h | h
    · have := (List.mem_replicate.1 h).2; omega
    · exact h3.1 c (List.mem_of_mem_take h)
  obtain ⟨c0, c1, c2, c3, c4, c5, c6, c7, hc⟩ := eight_named (List.replicate (8 - 1) 0 ++ l.take 1) (by simp; omega)
  have hv : val [c0, c1, c2, c3, c4, c5, c6, c7] = val (l.take 1) := by rw [← hc, val_zeros]
  have hsp := splice_eight 1 (l.take 1) (by omega) (by simp; omega)
  rw [hc] at hm8 hsp
  obtain ⟨cs, hcs⟩ : ∃ cs, cs = (l.take 1).map u8v := ⟨_, rfl⟩
  have hcl : cs.length = 1 := by rw [hcs]; simp; omega
  have hc1 : ∀ v ∈ cs, v.oneCell' = true := by rw [hcs]; exact u8v_one _
  rw [← hcs] at hsp
  have HSP := Lib.hid hsp; clear hsp
  have HV := Lib.hid hv; clear hv
  have HC8 := Lib.hid hm8; clear hm8
  have HCS := Lib.hid hcs; clear hcs
  have HCL := Lib.hid hcl; clear hcl
  have HC1 := Lib.hid hc1; clear hc1
  clear hc
  have H := Lib.hid h; clear h
  have z7 : IntKind.i64.wrap 7 = 7 := rfl
  have hf : Frm [] w ((w.alloc (.cells #[.int .u8 0, .int .u8 0, .int .u8 0, .int .u8 0, .int .u8 0, .int .u8 0, .int .u8 0, .int .u8 0] 64)).drew) := ((Frm.refl _ _).alloc _).drew
  have HW := Lib.hid (Whole.made w 64 #[.int .u8 0, .int .u8 0, .int .u8 0, .int .u8 0, .int .u8 0, .int .u8 0, .int .u8 0, .int .u8 0])
  have HF := Lib.hid hf; clear hf
  have HLT := Lib.hid hlt; clear hlt
  have HG : Hid (∀ w1, Frm [rb] (w.alloc (.cells #[.int .u8 0, .int .u8 0, .int .u8 0, .int .u8 0, .int .u8 0, .int .u8 0, .int .u8 0, .int .u8 0] 64)).drew w1 → w1.heap[w.heap.size]? = some (.cells [u8v 0, u8v 0, u8v 0, u8v 0, u8v 0, u8v 0, u8v 0, u8v 0].toArray 64 (0, 0))) := by
    intro w1 h1
    exact h1.whole (show Whole _ _ _ _ from HW.out) (by have := HLT.out.1; simp; omega)
  go_enter Tryd.func32, Tryd.ntmps32
  go_wp2
  go_region_law (first | (refine step_copy_splice rfl (.tmp 8) (.tmp 12) 22 22 rfl 5 Tryd.underlying22 (by kernel_rfl) _ ta 1 _ 1 _ rfl rfl w.heap.size (8 - 1) [u8v 0, u8v 0, u8v 0, u8v 0, u8v 0, u8v 0, u8v 0, u8v 0] 64 (HG.out _ HT.out.2.2.2.2.2.2) cs HCL.out (fun hp => ⟨rfl, by rw [HCS.out] at hp ⊢; exact copy_side HT.out.1 hp⟩) (by rw [HCL.out]; decide) HC1.out w.heap.size w1 (Below.refl _ _) (Nat.le_refl _) ?_; intro w2 hw2 hb2; have HB2 := Lib.hid hb2; clear hb2) | (go_simp; go_at_call 38; refine (take_ok _ (H.out.keep HF.out (by simp) (by simp) (by simp)) hl).mono ?_; rintro e w1 ⟨ta, tcap, rfl, ht⟩; have HT := Lib.hid ht; clear ht))
  have hrow : w2.heap[w.heap.size]? = some (.cells #[.int .u8 c0, .int .u8 c1, .int .u8 c2, .int .u8 c3, .int .u8 c4, .int .u8 c5, .int .u8 c6, .int .u8 c7] 64 (0, 0)) := by
    have := hw2.out
    rw [HSP.out] at this
    exact this
  have HROW := Lib.hid hrow; clear hrow
  clear hw2
  go_wp2_with (refine wpList_load_row rfl 64 (.tmp 5) rfl w.heap.size rfl 64 _ (0, 0) _ HROW.out Tryd.underlying64 rfl (by kernel_rfl) ?_)
  refine (value_any c0 c1 c2 c3 c4 c5 c6 c7 _ (HC8.out _ (by simp)) (HC8.out _ (by simp)) (HC8.out _ (by simp)) (HC8.out _ (by simp)) (HC8.out _ (by simp)) (HC8.out _ (by simp)) (HC8.out _ (by simp)) (HC8.out _ (by simp))).mono ?_
  rintro e w3 ⟨rfl, hb3⟩
  have HB3 := Lib.hid hb3; clear hb3
  go_wp2
  go_ret
  have := HV.out
  rw [← this]
  exact got_end HLT.out hdb HF.out HT.out.2.2.2.2.2.1 HT.out.2.2.2.2.2.2 HB2.out HB3.out

set_option maxHeartbeats 2000000 in
theorem rnumber_ok2 {w : World} {rb cb db : Nat} {l : List Nat} (h : Rdr w rb cb db l) (hl : 2 ≤ l.length) (hdb : db < w.heap.size) :
    Calls Tryd.prog 32 #[.pointer (some ⟨rb, 0, none⟩), .int .i64 2] w (Got w rb cb db l 2 (.int .u64 (val (l.take 2) : Nat))) := by
  have hlt := h.lt
  have hm8 : ∀ c ∈ List.replicate (8 - 2) 0 ++ l.take 2, c < 256 := by
    obtain ⟨a, cap, _, _, h3, _⟩ := h
    intro c hc
    rcases List.mem_append.1 hc with h | h
    · have := (List.mem_replicate.1 h).2; omega
    · exact h3.1 c (List.mem_of_mem_take h)
  obtain ⟨c0, c1, c2, c3, c4, c5, c6, c7, hc⟩ := eight_named (List.replicate (8 - 2) 0 ++ l.take 2) (by simp; omega)
  have hv : val [c0, c1, c2, c3, c4, c5, c6, c7] = val (l.take 2) := by rw [← hc, val_zeros]
  have hsp := splice_eight 2 (l.take 2) (by omega) (by simp; omega)
  rw [hc] at hm8 hsp
  obtain ⟨cs, hcs⟩ : ∃ cs, cs = (l.take 2).map u8v := ⟨_, rfl⟩
  have hcl : cs.length = 2 := by rw [hcs]; simp; omega
  have hc1 : ∀ v ∈ cs, v.oneCell' = true := by rw [hcs]; exact u8v_one _
  rw [← hcs] at hsp
  have HSP := Lib.hid hsp; clear hsp
  have HV := Lib.hid hv; clear hv
  have HC8 := Lib.hid hm8; clear hm8
  have HCS := Lib.hid hcs; clear hcs
  have HCL := Lib.hid hcl; clear hcl
  have HC1 := Lib.hid hc1; clear hc1
  clear hc
  have H := Lib.hid h; clear h
  have z7 : IntKind.i64.wrap 6 = 6 := rfl
  have hf : Frm [] w ((w.alloc (.cells #[.int .u8 0, .int .u8 0, .int .u8 0, .int .u8 0, .int .u8 0, .int .u8 0, .int .u8 0, .int .u8 0] 64)).drew) := ((Frm.refl _ _).alloc _).drew
  have HW := Lib.hid (Whole.made w 64 #[.int .u8 0, .int .u8 0, .int .u8 0, .int .u8 0, .int .u8 0, .int .u8 0, .int .u8 0, .int .u8 0])
  have HF := Lib.hid hf; clear hf
  have HLT := Lib.hid hlt; clear hlt
  have HG : Hid (∀ w1, Frm [rb] (w.alloc (.cells #[.int .u8 0, .int .u8 0, .int .u8 0, .int .u8 0, .int .u8 0, .int .u8 0, .int .u8 0, .int .u8 0] 64)).drew w1 → w1.heap[w.heap.size]? = some (.cells [u8v 0, u8v 0, u8v 0, u8v 0, u8v 0, u8v 0, u8v 0, u8v 0].toArray 64 (0, 0))) := by
    intro w1 h1
    exact h1.whole (show Whole _ _ _ _ from HW.out) (by have := HLT.out.1; simp; omega)
  go_enter Tryd.func32, Tryd.ntmps32
  go_wp2
  go_region_law (first | (refine step_copy_splice rfl (.tmp 8) (.tmp 12) 22 22 rfl 5 Tryd.underlying22 (by kernel_rfl) _ ta 2 _ 2 _ rfl rfl w.heap.size (8 - 2) [u8v 0, u8v 0, u8v 0, u8v 0, u8v 0, u8v 0, u8v 0, u8v 0] 64 (HG.out _ HT.out.2.2.2.2.2.2) cs HCL.out (fun hp => ⟨rfl, by rw [HCS.out] at hp ⊢; exact copy_side HT.out.1 hp⟩) (by rw [HCL.out]; decide) HC1.out w.heap.size w1 (Below.refl _ _) (Nat.le_refl _) ?_; intro w2 hw2 hb2; have HB2 := Lib.hid hb2; clear hb2) | (go_simp; go_at_call 38; refine (take_ok _ (H.out.keep HF.out (by simp) (by simp) (by simp)) hl).mono ?_; rintro e w1 ⟨ta, tcap, rfl, ht⟩; have HT := Lib.hid ht; clear ht))
  have hrow : w2.heap[w.heap.size]? = some (.cells #[.int .u8 c0, .int .u8 c1, .int .u8 c2, .int .u8 c3, .int .u8 c4, .int .u8 c5, .int .u8 c6, .int .u8 c7] 64 (0, 0)) := by
    have := hw2.out
    rw [HSP.out] at this
    exact this
  have HROW := Lib.hid hrow; clear hrow
  clear hw2
  go_wp2_with (refine wpList_load_row rfl 64 (.tmp 5) rfl w.heap.size rfl 64 _ (0, 0) _ HROW.out Tryd.underlying64 rfl (by kernel_rfl) ?_)
  refine (value_any c0 c1 c2 c3 c4 c5 c6 c7 _ (HC8.out _ (by simp)) (HC8.out _ (by simp)) (HC8.out _ (by simp)) (HC8.out _ (by simp)) (HC8.out _ (by simp)) (HC8.out _ (by simp)) (HC8.out _ (by simp)) (HC8.out _ (by simp))).mono ?_
  rintro e w3 ⟨rfl, hb3⟩
  have HB3 := Lib.hid hb3; clear hb3
  go_wp2
  go_ret
  have := HV.out
  rw [← this]
  exact got_end HLT.out hdb HF.out HT.out.2.2.2.2.2.1 HT.out.2.2.2.2.2.2 HB2.out HB3.out

set_option maxHeartbeats 2000000 in
theorem rnumber_ok4 {w : World} {rb cb db : Nat} {l : List Nat} (h : Rdr w rb cb db l) (hl : 4 ≤ l.length) (hdb : db < w.heap.size) :
    Calls Tryd.prog 32 #[.pointer (some ⟨rb, 0, none⟩), .int .i64 4] w (Got w rb cb db l 4 (.int .u64 (val (l.take 4) : Nat))) := by
  have hlt := h.lt
  have hm8 : ∀ c ∈ List.replicate (8 - 4) 0 ++ l.take 4, c < 256 := by
    obtain ⟨a, cap, _, _, h3, _⟩ := h
    intro c hc
    rcases List.mem_append.1 hc with h | h
    · have := (List.mem_replicate.1 h).2; omega
    · exact h3.1 c (List.mem_of_mem_take h)
  obtain ⟨c0, c1, c2, c3, c4, c5, c6, c7, hc⟩ := eight_named (List.replicate (8 - 4) 0 ++ l.take 4) (by simp; omega)
  have hv : val [c0, c1, c2, c3, c4, c5, c6, c7] = val (l.take 4) := by rw [← hc, val_zeros]
  have hsp := splice_eight 4 (l.take 4) (by omega) (by simp; omega)
  rw [hc] at hm8 hsp
  obtain ⟨cs, hcs⟩ : ∃ cs, cs = (l.take 4).map u8v := ⟨_, rfl⟩
  have hcl : cs.length = 4 := by rw [hcs]; simp; omega
  have hc1 : ∀ v ∈ cs, v.oneCell' = true := by rw [hcs]; exact u8v_one _
  rw [← hcs] at hsp
  have HSP := Lib.hid hsp; clear hsp
  have HV := Lib.hid hv; clear hv
  have HC8 := Lib.hid hm8; clear hm8
  have HCS := Lib.hid hcs; clear hcs
  have HCL := Lib.hid hcl; clear hcl
  have HC1 := Lib.hid hc1; clear hc1
  clear hc
  have H := Lib.hid h; clear h
  have z7 : IntKind.i64.wrap 4 = 4 := rfl
  have hf : Frm [] w ((w.alloc (.cells #[.int .u8 0, .int .u8 0, .int .u8 0, .int .u8 0, .int .u8 0, .int .u8 0, .int .u8 0, .int .u8 0] 64)).drew) := ((Frm.refl _ _).alloc _).drew
  have HW := Lib.hid (Whole.made w 64 #[.int .u8 0, .int .u8 0, .int .u8 0, .int .u8 0, .int .u8 0, .int .u8 0, .int .u8 0, .int .u8 0])
  have HF := Lib.hid hf; clear hf
  have HLT := Lib.hid hlt; clear hlt
  have HG : Hid (∀ w1, Frm [rb] (w.alloc (.cells #[.int .u8 0, .int .u8 0, .int .u8 0, .int .u8 0, .int .u8 0, .int .u8 0, .int .u8 0, .int .u8 0] 64)).drew w1 → w1.heap[w.heap.size]? = some (.cells [u8v 0, u8v 0, u8v 0, u8v 0, u8v 0, u8v 0, u8v 0, u8v 0].toArray 64 (0, 0))) := by
    intro w1 h1
    exact h1.whole (show Whole _ _ _ _ from HW.out) (by have := HLT.out.1; simp; omega)
  go_enter Tryd.func32, Tryd.ntmps32
  go_wp2
  go_region_law (first | (refine step_copy_splice rfl (.tmp 8) (.tmp 12) 22 22 rfl 5 Tryd.underlying22 (by kernel_rfl) _ ta 4 _ 4 _ rfl rfl w.heap.size (8 - 4) [u8v 0, u8v 0, u8v 0, u8v 0, u8v 0, u8v 0, u8v 0, u8v 0] 64 (HG.out _ HT.out.2.2.2.2.2.2) cs HCL.out (fun hp => ⟨rfl, by rw [HCS.out] at hp ⊢; exact copy_side HT.out.1 hp⟩) (by rw [HCL.out]; decide) HC1.out w.heap.size w1 (Below.refl _ _) (Nat.le_refl _) ?_; intro w2 hw2 hb2; have HB2 := Lib.hid hb2; clear hb2) | (go_simp; go_at_call 38; refine (take_ok _ (H.out.keep HF.out (by simp) (by simp) (by simp)) hl).mono ?_; rintro e w1 ⟨ta, tcap, rfl, ht⟩; have HT := Lib.hid ht; clear ht))
  have hrow : w2.heap[w.heap.size]? = some (.cells #[.int .u8 c0, .int .u8 c1, .int .u8 c2, .int .u8 c3, .int .u8 c4, .int .u8 c5, .int .u8 c6, .int .u8 c7] 64 (0, 0)) := by
    have := hw2.out
    rw [HSP.out] at this
    exact this
  have HROW := Lib.hid hrow; clear hrow
  clear hw2
  go_wp2_with (refine wpList_load_row rfl 64 (.tmp 5) rfl w.heap.size rfl 64 _ (0, 0) _ HROW.out Tryd.underlying64 rfl (by kernel_rfl) ?_)
  refine (value_any c0 c1 c2 c3 c4 c5 c6 c7 _ (HC8.out _ (by simp)) (HC8.out _ (by simp)) (HC8.out _ (by simp)) (HC8.out _ (by simp)) (HC8.out _ (by simp)) (HC8.out _ (by simp)) (HC8.out _ (by simp)) (HC8.out _ (by simp))).mono ?_
  rintro e w3 ⟨rfl, hb3⟩
  have HB3 := Lib.hid hb3; clear hb3
  go_wp2
  go_ret
  have := HV.out
  rw [← this]
  exact got_end HLT.out hdb HF.out HT.out.2.2.2.2.2.1 HT.out.2.2.2.2.2.2 HB2.out HB3.out

set_option maxHeartbeats 2000000 in
theorem rnumber_ok8 {w : World} {rb cb db : Nat} {l : List Nat} (h : Rdr w rb cb db l) (hl : 8 ≤ l.length) (hdb : db < w.heap.size) :
    Calls Tryd.prog 32 #[.pointer (some ⟨rb, 0, none⟩), .int .i64 8] w (Got w rb cb db l 8 (.int .u64 (val (l.take 8) : Nat))) := by
  have hlt := h.lt
  have hm8 : ∀ c ∈ List.replicate (8 - 8) 0 ++ l.take 8, c < 256 := by
    obtain ⟨a, cap, _, _, h3, _⟩ := h
    intro c hc
    rcases List.mem_append.1 hc with h | h
    · have := (List.mem_replicate.1 h).2; omega
    · exact h3.1 c (List.mem_of_mem_take h)
  obtain ⟨c0, c1, c2, c3, c4, c5, c6, c7, hc⟩ := eight_named (List.replicate (8 - 8) 0 ++ l.take 8) (by simp; omega)
  have hv : val [c0, c1, c2, c3, c4, c5, c6, c7] = val (l.take 8) := by rw [← hc, val_zeros]
  have hsp := splice_eight 8 (l.take 8) (by omega) (by simp; omega)
  rw [hc] at hm8 hsp
  obtain ⟨cs, hcs⟩ : ∃ cs, cs = (l.take 8).map u8v := ⟨_, rfl⟩
  have hcl : cs.length = 8 := by rw [hcs]; simp; omega
  have hc1 : ∀ v ∈ cs, v.oneCell' = true := by rw [hcs]; exact u8v_one _
  rw [← hcs] at hsp
  have HSP := Lib.hid hsp; clear hsp
  have HV := Lib.hid hv; clear hv
  have HC8 := Lib.hid hm8; clear hm8
  have HCS := Lib.hid hcs; clear hcs
  have HCL := Lib.hid hcl; clear hcl
  have HC1 := Lib.hid hc1; clear hc1
  clear hc
  have H := Lib.hid h; clear h
  have z7 : IntKind.i64.wrap 0 = 0 := rfl
  have hf : Frm [] w ((w.alloc (.cells #[.int .u8 0, .int .u8 0, .int .u8 0, .int .u8 0, .int .u8 0, .int .u8 0, .int .u8 0, .int .u8 0] 64)).drew) := ((Frm.refl _ _).alloc _).drew
  have HW := Lib.hid (Whole.made w 64 #[.int .u8 0, .int .u8 0, .int .u8 0, .int .u8 0, .int .u8 0, .int .u8 0, .int .u8 0, .int .u8 0])
  have HF := Lib.hid hf; clear hf
  have HLT := Lib.hid hlt; clear hlt
  have HG : Hid (∀ w1, Frm [rb] (w.alloc (.cells #[.int .u8 0, .int .u8 0, .int .u8 0, .int .u8 0, .int .u8 0, .int .u8 0, .int .u8 0, .int .u8 0] 64)).drew w1 → w1.heap[w.heap.size]? = some (.cells [u8v 0, u8v 0, u8v 0, u8v 0, u8v 0, u8v 0, u8v 0, u8v 0].toArray 64 (0, 0))) := by
    intro w1 h1
    exact h1.whole (show Whole _ _ _ _ from HW.out) (by have := HLT.out.1; simp; omega)
  go_enter Tryd.func32, Tryd.ntmps32
  go_wp2
  go_region_law (first | (refine step_copy_splice rfl (.tmp 8) (.tmp 12) 22 22 rfl 5 Tryd.underlying22 (by kernel_rfl) _ ta 8 _ 8 _ rfl rfl w.heap.size (8 - 8) [u8v 0, u8v 0, u8v 0, u8v 0, u8v 0, u8v 0, u8v 0, u8v 0] 64 (HG.out _ HT.out.2.2.2.2.2.2) cs HCL.out (fun hp => ⟨rfl, by rw [HCS.out] at hp ⊢; exact copy_side HT.out.1 hp⟩) (by rw [HCL.out]; decide) HC1.out w.heap.size w1 (Below.refl _ _) (Nat.le_refl _) ?_; intro w2 hw2 hb2; have HB2 := Lib.hid hb2; clear hb2) | (go_simp; go_at_call 38; refine (take_ok _ (H.out.keep HF.out (by simp) (by simp) (by simp)) hl).mono ?_; rintro e w1 ⟨ta, tcap, rfl, ht⟩; have HT := Lib.hid ht; clear ht))
  have hrow : w2.heap[w.heap.size]? = some (.cells #[.int .u8 c0, .int .u8 c1, .int .u8 c2, .int .u8 c3, .int .u8 c4, .int .u8 c5, .int .u8 c6, .int .u8 c7] 64 (0, 0)) := by
    have := hw2.out
    rw [HSP.out] at this
    exact this
  have HROW := Lib.hid hrow; clear hrow
  clear hw2
  go_wp2_with (refine wpList_load_row rfl 64 (.tmp 5) rfl w.heap.size rfl 64 _ (0, 0) _ HROW.out Tryd.underlying64 rfl (by kernel_rfl) ?_)
  refine (value_any c0 c1 c2 c3 c4 c5 c6 c7 _ (HC8.out _ (by simp)) (HC8.out _ (by simp)) (HC8.out _ (by simp)) (HC8.out _ (by simp)) (HC8.out _ (by simp)) (HC8.out _ (by simp)) (HC8.out _ (by simp)) (HC8.out _ (by simp))).mono ?_
  rintro e w3 ⟨rfl, hb3⟩
  have HB3 := Lib.hid hb3; clear hb3
  go_wp2
  go_ret
  have := HV.out
  rw [← this]
  exact got_end HLT.out hdb HF.out HT.out.2.2.2.2.2.1 HT.out.2.2.2.2.2.2 HB2.out HB3.out

theorem rnumber_ok {w : World} {rb cb db : Nat} {l : List Nat} (k : Nat) (h : Rdr w rb cb db l) (hk : k = 1 ∨ k = 2 ∨ k = 4 ∨ k = 8) (hl : k ≤ l.length) (hdb : db < w.heap.size) :
    Calls Tryd.prog 32 #[.pointer (some ⟨rb, 0, none⟩), .int .i64 k] w (Got w rb cb db l k (.int .u64 (val (l.take k) : Nat))) := by
  rcases hk with rfl | rfl | rfl | rfl
  · exact rnumber_ok1 h hl hdb
  · exact rnumber_ok2 h hl hdb
  · exact rnumber_ok4 h hl hdb
  · exact rnumber_ok8 h hl hdb
end Go.Proofs.YtpamiglinmfgkaaDoor
