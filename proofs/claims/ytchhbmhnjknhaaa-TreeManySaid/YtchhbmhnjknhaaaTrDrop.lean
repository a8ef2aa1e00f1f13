/- Contract of the program's Drop; New; the calls of a nil tree. -/
import Derived.Test.YtchhbmhnjknhaaaTrDropF
import Derived.Test.YtchhbmhnjknhaaaTrGet
import Derived.Test.YtchhbmhnjknhaaaTrList
import Derived.Test.YtchhbmhnjknhaaaTrPutNew
import Derived.Test.YtchhbmhnjknhaaaTrPutOld
namespace Go.Proofs.Ytchhbmhnjknhaaa
open Go.RowKit

/-- What stays when an owner's keys go. -/
def keepD (o : Nat) (L : List Nd) : List Nd := L.filter (fun d => decide (o = 0) || decide (d.own ≠ o))
def ownAt (w : World) (o : Nat) (q : Nat) : Bool := match w.cell? ⟨q, 3, none⟩ with | some (.int _ v) => v == (o : Int) | _ => false
theorem ownAt_nd {w : World} {o q : Nat} {x : Nx} (h : Whole w q 44 x.cells.toArray) : ownAt w o q = ((x.t.own : Int) == (o : Int)) := by
  have h3 : w.cell? ⟨q, 3, none⟩ = some (.int .u64 (x.t.own : Nat)) := h.cell 3
  unfold ownAt
  rw [h3]
theorem NdsAt.kept {w : World} {o : Nat} (ho : o ≠ 0) : ∀ {L : List Nx} {qs : List Nat}, NdsAt w L qs → NdsAt w (L.filter (fun x => decide (o = 0) || decide (x.t.own ≠ o))) (keepQ (ownAt w o) qs)
  | [], [], _ => ⟨rfl, fun i hi => by simp at hi⟩
  | [], _ :: _, h => absurd h.1 (by simp)
  | _ :: _, [], h => absurd h.1 (by simp)
  | x :: L, q :: qs, h => by
    have hx : Whole w q 44 x.cells.toArray := h.2 0 (by simp)
    have hr : NdsAt w L qs := ⟨by simpa using h.1, fun i hi => h.2 (i + 1) (by simpa using hi)⟩
    have ih := NdsAt.kept ho hr
    have e := ownAt_nd (o := o) hx
    unfold keepQ at ih ⊢
    by_cases hxo : x.t.own = o
    · have e2 : ownAt w o q = true := by rw [e, hxo]; simp
      rw [List.filter_cons, List.filter_cons, if_neg (by simp [ho, hxo]), if_neg (by simp [e2])]
      exact ih
    · have e2 : ownAt w o q = false := by rw [e, beq_eq_false_iff_ne]; omega
      rw [List.filter_cons, List.filter_cons, if_pos (by simp [hxo]), if_pos (by simp [e2])]
      exact (NdsAt.one hx).append ih
theorem keepD_nds (o : Nat) (L : List Nx) : nds (L.filter (fun x => decide (o = 0) || decide (x.t.own ≠ o))) = keepD o (nds L) := by
  unfold keepD nds
  rw [List.filter_map]
  rfl

set_option maxRecDepth 100000 in
set_option maxHeartbeats 2000000 in
theorem drop_any {w : World} {B p : Nat} {F : List Nat} {a : Option Addr} {cap : Nat} {L : List Nx} {qs : List Nat} (o : Nat) (h : Pt w B p F a cap L qs) (hF : ∀ x ∈ F, x < w.heap.size) :
    Calls Try.prog 17 #[.pointer (some ⟨p, 0, none⟩), .int .u64 (o : Nat)] w (PtEnd w B p F (keepD o (nds L)) (.tuple #[])) := by
  by_cases h0 : o = 0
  · have hk : keepD o (nds L) = nds L := by unfold keepD; rw [h0]; simp
    rw [hk]
    have HH := Lib.hid h
    subst h0
    clear h hF hk
    go_enter Try.func17, Try.ntmps17
    go_wp2
    exact bodyPost_ret (v := .tuple #[]) (by simp [results, Try.results17, go_sem]) rfl ⟨rfl, a, cap, L, qs, HH.out.keep ((Frm.refl [] w).alloc _) (by simp) (fun x hx => .inl hx), rfl, ((Frm.refl [] w).alloc _).weak (by simp)⟩
  · obtain ⟨w1, hw1⟩ : ∃ w1, w1 = w.alloc (.cells #[.int .u64 (o : Nat)] 31) := ⟨_, rfl⟩
    obtain ⟨g, hg⟩ : ∃ g, g = w.heap.size := ⟨_, rfl⟩
    have hW1 := Whole.made w 31 #[.int .u64 (o : Nat)]
    rw [← hw1, ← hg] at hW1
    have hf1 : Frm [] w w1 := by rw [hw1]; exact (Frm.refl _ _).alloc _
    have h1 := h.keep (F' := F) hf1 (by simp) (fun x hx => .inl hx)
    have hne : ((o : Int) == 0) = false := by rw [beq_eq_false_iff_ne]; omega
    obtain ⟨n, hn⟩ : ∃ n, n = L.length := ⟨_, rfl⟩
    have hn256 : n ≤ 256 := by rw [hn]; exact h.few
    have c1 := h1.tree.cell 0
    rw [← hn] at c1
    simp at c1
    rw [hw1] at c1
    have hgc := hW1.cell 0
    simp at hgc
    have HCL := Lib.hid (cloneP_any a n cap (qs.map ptr) w1 h1.ptrs (by rw [List.length_map, h1.len, hn]) (ptr_one qs) h1.nil (by omega))
    have HH := Lib.hid h
    have HH1 := Lib.hid h1
    have HFF := Lib.hid hF
    have HN := Lib.hid hn
    have HG := Lib.hid hg
    have HW := Lib.hid hw1
    have HWG := Lib.hid hW1
    have HF1 := Lib.hid hf1
    have H0 := Lib.hid h0
    clear h hF hn hg hw1 hW1 hf1 h1 h0
    go_enter Try.func17, Try.ntmps17
    go_wp2_with fail
    rw [← HW.out, ← HG.out]
    (with_reducible refine HCL.out.mono ?_)
    rintro e w2 ⟨a2, c2, rfl, ho2, hf2⟩
    rw [List.length_map, HH.out.len, ← HN.out]
    have hp : ∀ wr, Frm (blk a2) w2 wr → ∀ q ∈ qs, Calls Try.prog 37 (#[.pointer (some ⟨q, 0, none⟩)] ++ #[.pointer (some ⟨g, 0, none⟩)]) wr fun e w' => e = .returned (.bool (ownAt w1 o q)) ∧ Frm [] wr w' := by
      intro wr hfr q hq
      have hblk : ∀ x ∈ blk a2, w1.heap.size ≤ x := fun x hx => by
        obtain ⟨y, rfl, rfl⟩ := mem_blk.1 hx
        exact (ho2.lt y rfl).1
      obtain ⟨i, hi, rfl⟩ := List.getElem_of_mem hq
      have hw := HH1.out.nodes i (by rw [← HH.out.len]; exact hi)
      have e : qs.getD i 0 = qs[i] := by simp [hi]
      rw [e] at hw
      have hw2 := hf2.whole hw (by simp)
      have hwr := hfr.whole hw2 (fun hm => by have := hblk _ hm; have := hw.lt; omega)
      have hgr := hfr.whole (hf2.whole HWG.out (by simp)) (fun hm => by have := hblk _ hm; have := HWG.out.lt; omega)
      have h3 : wr.cell? ⟨qs[i], 3, none⟩ = some (.int .u64 ((L.getD i default).t.own : Nat)) := hwr.cell 3
      rw [ownAt_nd hw]
      exact dropf_any _ g _ o wr h3 (hgr.cell 0)
    have HDF := Lib.hid (deleteP_any a2 n c2 w1.heap.size qs #[.pointer (some ⟨g, 0, none⟩)] (ownAt w1 o) w2 ho2 (by rw [HH.out.len, ← HN.out]) (by omega) hp)
    have HO2 := Lib.hid ho2
    have HF2 := Lib.hid hf2
    clear hp ho2 hf2
    go_wp2_with fail
    (with_reducible refine HDF.out.mono ?_)
    rintro e w3 ⟨m, rfl, hm, ho3, hf3⟩
    have hf23 : Frm [] w1 w3 := HF2.out.trans hf3 (U := []) (by simp) (fun x hx => by
      obtain ⟨y, rfl, rfl⟩ := mem_blk.1 hx
      exact .inr (HO2.out.lt y rfl).1)
    have hf13 := HF1.out.trans hf23 (U := []) (by simp) (by simp)
    have hnq := NdsAt.kept H0.out HH1.out.nat
    have hqsub : ∀ x ∈ keepQ (ownAt w1 o) qs, x ∈ qs := fun x hx => (List.mem_filter.1 hx).1
    have hml : m ≤ 256 := by
      have := List.length_filter_le (fun q => !ownAt w1 o q) qs
      rw [HH.out.len, ← HN.out] at this
      unfold keepQ at hm; omega
    have hdone := less_done HH1.out (fun x hx => Nat.lt_of_lt_of_le (HFF.out x hx) HF1.out.size) hf23 hnq (fun x hx => (List.mem_filter.1 hx).1) hqsub (OwnP.low ho3 (Nat.le_refl _)) m hm.symm hml
    rw [keepD_nds] at hdone
    have c3p := (hf13.whole HH.out.tree (by simp)).cell 0
    rw [← HN.out] at c3p
    simp at c3p
    have f3p := (hf13.whole HH.out.tree (by simp)).free 0
    have HE := Lib.hid (show PtTo w (w3.setCell ⟨p, 0, none⟩ (.slice a2 m c2)) B p F (keepD o (nds L)) from by
      obtain ⟨a', c', X, rs, h1, h2, h3⟩ := hdone
      exact ⟨a', c', X, rs, h1, h2, HF1.out.trans h3 (U := [p]) (by simp) (fun x hx => .inl hx)⟩)
    clear hm ho3 hf3 hf23 hf13 hnq hqsub hml hdone HDF
    go_wp2
    go_end0
    exact ⟨rfl, HE.out⟩

/-- An empty tree. -/
theorem new_any (w : World) (F : List Nat) (hF : ∀ x ∈ F, x < w.heap.size) :
    Calls Try.prog 11 #[] w fun e w' => e = .returned (.pointer (some ⟨w.heap.size, 0, none⟩)) ∧ Pt w' w.heap.size w.heap.size F none 0 [] [] ∧ Frm [] w w' ∧ w'.heap.size = w.heap.size + 1 := by
  go_enter Try.func11, Try.ntmps11
  go_wp2
  go_ret
  exact ⟨rfl, ⟨Whole.made w _ _, rfl, .inl rfl, fun i hi => by simp at hi, NOk.nil _ _, Nat.le_refl _, fun hm => by have := hF _ hm; omega, fun h => absurd rfl h, by simp, by simp, by simp, Nat.zero_le _, fun _ => rfl⟩, (Frm.refl _ _).alloc _, by simp⟩

/-- A nil tree. -/
theorem nil_put (s : ByteArray) (v x y : Value) (w : World) : Calls Try.prog 13 #[.pointer none, .string s, v, x, y] w fun e w' => e = .returned (.tuple #[.int .u64 0, .int .i64 1]) ∧ w = w' := by
  go_enter Try.func13, Try.ntmps13
  go_wp2
  go_ret2
  exact ⟨rfl, rfl⟩
theorem nil_delete (s : ByteArray) (x : Value) (w : World) : Calls Try.prog 15 #[.pointer none, .string s, x] w fun e w' => e = .returned (.int .i64 1) ∧ w = w' := by
  go_enter Try.func15, Try.ntmps15
  go_wp2
  go_ret
  exact ⟨rfl, rfl⟩
theorem nil_list (s : ByteArray) (w : World) : Calls Try.prog 26 #[.pointer none, .string s] w fun e w' => e = .returned (.slice none 0 0) ∧ w = w' := by
  go_enter Try.func26, Try.ntmps26
  go_wp2
  go_ret
  exact ⟨rfl, rfl⟩
theorem nil_drop (o : Nat) (w : World) : Calls Try.prog 17 #[.pointer none, .int .u64 (o : Nat)] w fun e w' => e = .returned (.tuple #[]) ∧ Frm [] w w' := by
  go_enter Try.func17, Try.ntmps17
  go_wp2
  exact bodyPost_ret (v := .tuple #[]) (by simp [results, Try.results17, go_sem]) rfl ⟨rfl, (Frm.refl _ _).alloc _⟩
set_option maxHeartbeats 1000000 in
theorem nil_get (s : ByteArray) (w : World) : Calls Try.prog 19 #[.pointer none, .string s] w fun e w' => e = .returned (.tuple #[.agg #[.string ⟨#[]⟩, .slice none 0 0, .int .u64 0, .int .u64 0], .bool false]) ∧ Frm [] w w' := by
  go_enter Try.func19, Try.ntmps19
  go_wp2
  exact bodyPost_ret (v := .tuple #[.agg #[.string ⟨#[]⟩, .slice none 0 0, .int .u64 0, .int .u64 0], .bool false]) (by simp [results, Try.results19, go_sem]) rfl ⟨rfl, (Frm.refl _ _).alloc _⟩
end Go.Proofs.Ytchhbmhnjknhaaa
