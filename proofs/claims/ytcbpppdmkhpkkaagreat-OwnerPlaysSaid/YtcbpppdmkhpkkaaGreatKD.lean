/- Contracts and mathematics that the proofs of this seat stand on: TrDrop, RtDel, RtList, RtPut, RtPut2, RtPut3, TrAlike, TrRight, LsMath, LsCalls, RbAt, BkBase, BkFind, MtLive, MtMath, TrLoad, BkAdd, BkOpen, BkRenew, BkClose, BkAll, BkNew, RbOps, RbSame, RbExpire. -/
import Derived.Test.YtcbpppdmkhpkkaaGreatKC
import Derived.Deep.RegionLaw
import Derived.Test.YtcbpppdmkhpkkaaGreatKA
import Derived.WalkLawsBesides
import Derived.IntWalk
import Derived.Deep.QuietTactic
import Derived.BigQuiet
import Derived.WalkKit
import Derived.Outline
import Derived.Deep.RegionWith
import Derived.Lib.SliceRun
import Derived.Laws.StructEq
/- Contract of the program's Drop; New; the calls of a nil tree. -/
namespace Go.Proofs.YtcbpppdmkhpkkaaGreat
open Go.RowKit
set_option maxRecDepth 100000

/-- What stays when an owner's keys go. -/
def keepD (o : Nat) (L : List Nd) : List Nd := L.filter (fun d => decide (o = 0) || decide (d.own ≠ o))
def ownAt (w : World) (o : Nat) (q : Nat) : Bool := match w.cell? ⟨q, 3, none⟩ with | some (.int _ v) => v == (o : Int) | _ => false
theorem ownAt_nd {w : World} {o q : Nat} {x : Nx} (h : Whole w q 58 x.cells.toArray) : ownAt w o q = ((x.t.own : Int) == (o : Int)) := by
  have h3 : w.cell? ⟨q, 3, none⟩ = some (.int .u64 (x.t.own : Nat)) := h.cell 3
  unfold ownAt
  rw [h3]
theorem NdsAt.kept {w : World} {o : Nat} (ho : o ≠ 0) : ∀ {L : List Nx} {qs : List Nat}, NdsAt w L qs → NdsAt w (L.filter (fun x => decide (o = 0) || decide (x.t.own ≠ o))) (keepQ (ownAt w o) qs)
  | [], [], _ => ⟨rfl, fun i hi => by simp at hi⟩
  | [], _ :: _, h => absurd h.1 (by simp)
  | _ :: _, [], h => absurd h.1 (by simp)
  | x :: L, q :: qs, h => by
    have hx : Whole w q 58 x.cells.toArray := h.2 0 (by simp)
    have hr : NdsAt w L qs := ⟨by simpa using h.1, fun i hi => h.2 (i + 1) (by simpa using hi)⟩
    have ih := NdsAt.kept ho hr
    have e := ownAt_nd (o := o) hx
    unfold keepQ at ih ⊢
    by_cases hxo : x.t.own = o
    · have e2 : ownAt w o q = true := by rw [e, hxo]; simp
      rw [List.filter_cons, List.filter_cons, if_neg (by simp [ho, hxo]), if_neg (by simp [e2])]
      exact ih
    · have e2 : ownAt w o q = false := by rw [e, beq_eq_false_iff_ne]; omega
      rw [List.filter_cons, List.filter_cons, if_pos (by simp [hxo]), if_pos (by simp [e2])]
      exact (NdsAt.one hx).append ih
theorem keepD_nds (o : Nat) (L : List Nx) : nds (L.filter (fun x => decide (o = 0) || decide (x.t.own ≠ o))) = keepD o (nds L) := by
  unfold keepD nds
  rw [List.filter_map]
  rfl

set_option maxRecDepth 100000 in
set_option maxHeartbeats 2000000 in
theorem drop_any {w : World} {B p : Nat} {F : List Nat} {a : Option Addr} {cap : Nat} {L : List Nx} {qs : List Nat} (o : Nat) (h : Pt w B p F a cap L qs) (hF : ∀ x ∈ F, x < w.heap.size) :
    Calls Tryz.prog 101 #[.pointer (some ⟨p, 0, none⟩), .int .u64 (o : Nat)] w (PtEnd w B p F (keepD o (nds L)) (.tuple #[])) := by
  by_cases h0 : o = 0
  · have hk : keepD o (nds L) = nds L := by unfold keepD; rw [h0]; simp
    rw [hk]
    have HH := Lib.hid h
    subst h0
    clear h hF hk
    go_enter Tryz.func101, Tryz.ntmps101
    go_wp2
    exact bodyPost_ret (v := .tuple #[]) (by simp [results, Tryz.results101, go_sem]) rfl ⟨rfl, a, cap, L, qs, HH.out.keep ((Frm.refl [] w).alloc _) (by simp) (fun x hx => .inl hx), rfl, ((Frm.refl [] w).alloc _).weak (by simp)⟩
  · obtain ⟨w1, hw1⟩ : ∃ w1, w1 = w.alloc (.cells #[.int .u64 (o : Nat)] 27) := ⟨_, rfl⟩
    obtain ⟨g, hg⟩ : ∃ g, g = w.heap.size := ⟨_, rfl⟩
    have hW1 := Whole.made w 27 #[.int .u64 (o : Nat)]
    rw [← hw1, ← hg] at hW1
    have hf1 : Frm [] w w1 := by rw [hw1]; exact (Frm.refl _ _).alloc _
    have h1 := h.keep (F' := F) hf1 (by simp) (fun x hx => .inl hx)
    have hne : ((o : Int) == 0) = false := by rw [beq_eq_false_iff_ne]; omega
    obtain ⟨n, hn⟩ : ∃ n, n = L.length := ⟨_, rfl⟩
    have hn256 : n ≤ 256 := by rw [hn]; exact h.few
    have c1 := h1.tree.cell 0
    rw [← hn] at c1
    simp at c1
    rw [hw1] at c1
    have hgc := hW1.cell 0
    simp at hgc
    have HCL := Lib.hid (cloneP_any a n cap (qs.map ptr) w1 h1.ptrs (by rw [List.length_map, h1.len, hn]) (ptr_one qs) h1.nil (by omega))
    have HH := Lib.hid h
    have HH1 := Lib.hid h1
    have HFF := Lib.hid hF
    have HN := Lib.hid hn
    have HG := Lib.hid hg
    have HW := Lib.hid hw1
    have HWG := Lib.hid hW1
    have HF1 := Lib.hid hf1
    have H0 := Lib.hid h0
    clear h hF hn hg hw1 hW1 hf1 h1 h0
    go_enter Tryz.func101, Tryz.ntmps101
    go_wp2_with fail
    rw [← HW.out, ← HG.out]
    (with_reducible refine HCL.out.mono ?_)
    rintro e w2 ⟨a2, c2, rfl, ho2, hf2⟩
    rw [List.length_map, HH.out.len, ← HN.out]
    have hp : ∀ wr, Frm (blk a2) w2 wr → ∀ q ∈ qs, Calls Tryz.prog 134 (#[.pointer (some ⟨q, 0, none⟩)] ++ #[.pointer (some ⟨g, 0, none⟩)]) wr fun e w' => e = .returned (.bool (ownAt w1 o q)) ∧ Frm [] wr w' := by
      intro wr hfr q hq
      have hblk : ∀ x ∈ blk a2, w1.heap.size ≤ x := fun x hx => by
        obtain ⟨y, rfl, rfl⟩ := mem_blk.1 hx
        exact (ho2.lt y rfl).1
      obtain ⟨i, hi, rfl⟩ := List.getElem_of_mem hq
      have hw := HH1.out.nodes i (by rw [← HH.out.len]; exact hi)
      have e : qs.getD i 0 = qs[i] := by simp [hi]
      rw [e] at hw
      have hw2 := hf2.whole hw (by simp)
      have hwr := hfr.whole hw2 (fun hm => by have := hblk _ hm; have := hw.lt; omega)
      have hgr := hfr.whole (hf2.whole HWG.out (by simp)) (fun hm => by have := hblk _ hm; have := HWG.out.lt; omega)
      have h3 : wr.cell? ⟨qs[i], 3, none⟩ = some (.int .u64 ((L.getD i default).t.own : Nat)) := hwr.cell 3
      rw [ownAt_nd hw]
      exact dropf_any _ g _ o wr h3 (hgr.cell 0)
    have HDF := Lib.hid (deleteP_any a2 n c2 w1.heap.size qs #[.pointer (some ⟨g, 0, none⟩)] (ownAt w1 o) w2 ho2 (by rw [HH.out.len, ← HN.out]) (by omega) hp)
    have HO2 := Lib.hid ho2
    have HF2 := Lib.hid hf2
    clear hp ho2 hf2
    go_wp2_with fail
    (with_reducible refine HDF.out.mono ?_)
    rintro e w3 ⟨m, rfl, hm, ho3, hf3⟩
    have hf23 : Frm [] w1 w3 := HF2.out.trans hf3 (U := []) (by simp) (fun x hx => by
      obtain ⟨y, rfl, rfl⟩ := mem_blk.1 hx
      exact .inr (HO2.out.lt y rfl).1)
    have hf13 := HF1.out.trans hf23 (U := []) (by simp) (by simp)
    have hnq := NdsAt.kept H0.out HH1.out.nat
    have hqsub : ∀ x ∈ keepQ (ownAt w1 o) qs, x ∈ qs := fun x hx => (List.mem_filter.1 hx).1
    have hml : m ≤ 256 := by
      have := List.length_filter_le (fun q => !ownAt w1 o q) qs
      rw [HH.out.len, ← HN.out] at this
      unfold keepQ at hm; omega
    have hdone := less_done HH1.out (fun x hx => Nat.lt_of_lt_of_le (HFF.out x hx) HF1.out.size) hf23 hnq (fun x hx => (List.mem_filter.1 hx).1) hqsub (OwnP.low ho3 (Nat.le_refl _)) m hm.symm hml
    rw [keepD_nds] at hdone
    have c3p := (hf13.whole HH.out.tree (by simp)).cell 0
    rw [← HN.out] at c3p
    simp at c3p
    have f3p := (hf13.whole HH.out.tree (by simp)).free 0
    have HE := Lib.hid (show PtTo w (w3.setCell ⟨p, 0, none⟩ (.slice a2 m c2)) B p F (keepD o (nds L)) from by
      obtain ⟨a', c', X, rs, h1, h2, h3⟩ := hdone
      exact ⟨a', c', X, rs, h1, h2, HF1.out.trans h3 (U := [p]) (by simp) (fun x hx => .inl hx)⟩)
    clear hm ho3 hf3 hf23 hf13 hnq hqsub hml hdone HDF
    go_wp2
    go_end0
    exact ⟨rfl, HE.out⟩

/-- An empty tree. -/
theorem new_any (w : World) (F : List Nat) (hF : ∀ x ∈ F, x < w.heap.size) :
    Calls Tryz.prog 117 #[] w fun e w' => e = .returned (.pointer (some ⟨w.heap.size, 0, none⟩)) ∧ Pt w' w.heap.size w.heap.size F none 0 [] [] ∧ Frm [] w w' ∧ w'.heap.size = w.heap.size + 1 := by
  go_enter Tryz.func117, Tryz.ntmps117
  go_wp2
  go_ret
  exact ⟨rfl, ⟨Whole.made w _ _, rfl, .inl rfl, fun i hi => by simp at hi, NOk.nil _ _, Nat.le_refl _, fun hm => by have := hF _ hm; omega, fun h => absurd rfl h, by simp, by simp, by simp, Nat.zero_le _, fun _ => rfl⟩, (Frm.refl _ _).alloc _, by simp⟩

end Go.Proofs.YtcbpppdmkhpkkaaGreat
/- Contract of the reference's Delete. -/
namespace Go.Proofs.YtcbpppdmkhpkkaaGreat
open Go.RowKit
set_option maxRecDepth 100000

def delC (X : List Nx) (s : ByteArray) (want : Nat) : Nat := if ¬ atN X s < X.length then 11 else if (X.getD (atN X s) default).t.ver ≠ want then 13 else 0

/-- An empty literal, appended to. -/
theorem frm_lit {w z w3 : World} {base m : Nat} {e : TypeId} {xs us : List Value} {a3 : Option Addr} {c3 : Nat} (hz : Frm [] w z) (h : AppS (z.alloc (.cells #[] e)) w3 base e 4 (.slice (some ⟨z.heap.size, 0, none⟩) 0 0) 0 m xs us a3 c3) : Frm [] w w3 :=
  (hz.alloc _).grown h.grown (fun k hk => .inr (by simp [Value.ownBlock] at hk; have := hz.size; omega))
theorem frm_app {w z w3 : World} {base n m : Nat} {e : TypeId} {v : Value} {xs us : List Value} {a3 : Option Addr} {c3 : Nat} (hz : Frm [] w z) (h : AppS z w3 base e 4 v n m xs us a3 c3) (hb : ∀ g, v.ownBlock = some g → w.heap.size ≤ g) : Frm [] w w3 :=
  hz.grown h.grown (fun k hk => .inr (hb k hk))

def DelEnd (w : World) (B p : Nat) (F : List Nat) (X' : List Nx) (code : Nat) (e : Ending) (w' : World) : Prop :=
  e = .returned (.int .i64 (code : Nat)) ∧ ∃ a' c', Rt w' B p F a' c' X' ∧ Frm [p] w w'
end Go.Proofs.YtcbpppdmkhpkkaaGreat
/- Contract of the reference's List. -/
namespace Go.Proofs.YtcbpppdmkhpkkaaGreat
open Go.RowKit
set_option maxRecDepth 100000

/-- Where a node comes among others. -/
def pos (Y : List Nx) (K : ByteArray) : Nat := Y.findIdx (fun y => !kl y.t.k K)
theorem pos_le (Y : List Nx) (K : ByteArray) : pos Y K ≤ Y.length := List.findIdx_le_length
theorem pos_before {Y : List Nx} {K : ByteArray} {j : Nat} (h : j < pos Y K) : kl (Y.getD j default).t.k K = true := by
  have hj : j < Y.length := Nat.lt_of_lt_of_le h (pos_le Y K)
  have := List.not_of_lt_findIdx h
  rw [getD_get hj]
  simpa using this
theorem pos_at {Y : List Nx} {K : ByteArray} (h : pos Y K < Y.length) : kl (Y.getD (pos Y K) default).t.k K = false := by
  have h1 := List.findIdx_getElem (p := fun y : Nx => !kl y.t.k K) (w := h)
  rw [getD_get h]
  have h2 : (!kl Y[pos Y K].t.k K) = true := h1
  simpa using h2
def ins (x : Nx) (Y : List Nx) : List Nx := Y.take (pos Y x.t.k) ++ ([x] ++ Y.drop (pos Y x.t.k))
theorem ins_len (x : Nx) (Y : List Nx) : (ins x Y).length = Y.length + 1 := by
  have := pos_le Y x.t.k
  unfold ins; simp; omega
def preB (P K : ByteArray) : Bool := decide (P.size ≤ K.size) && ((K.extract 0 P.size).toList == P.toList)
def lsN (P : ByteArray) (X : List Nx) : List Nx := X.foldl (fun Y x => if preB P x.t.k = true then ins x Y else Y) []
theorem lsN_take {P : ByteArray} {X : List Nx} {k : Nat} (h : k < X.length) : lsN P (X.take (k + 1)) = if preB P (X.getD k default).t.k = true then ins (X.getD k default) (lsN P (X.take k)) else lsN P (X.take k) := by
  rw [getD_get h]
  unfold lsN
  rw [List.take_succ_eq_append_getElem h, List.foldl_append]
  rfl
theorem lsN_len (P : ByteArray) (X : List Nx) (k : Nat) (h : k ≤ X.length) : (lsN P (X.take k)).length ≤ k := by
  induction k with
  | zero => simp [lsN]
  | succ k ih =>
    have := ih (by omega)
    rw [lsN_take (by omega)]
    split
    · rw [ins_len]; omega
    · omega

def LsRel (w : World) (p : Nat) (F : List Nat) (P : ByteArray) (X : List Nx) (u5 u6 : Value) (wr : World) : Prop :=
  ∃ k a' c', k ≤ X.length ∧ u5 = .slice a' (lsN P (X.take k)).length c' ∧ u6 = .int .i64 (k : Nat) ∧ NOwn wr w.heap.size 58 (p :: F) a' c' (lsN P (X.take k)) ∧ Frm [] w wr
def ListEnd (w : World) (p : Nat) (F : List Nat) (Y : List Nx) (e : Ending) (w' : World) : Prop :=
  ∃ a' c', e = .returned (.slice a' Y.length c') ∧ NOwn w' w.heap.size 58 (p :: F) a' c' Y ∧ Frm [] w w'

end Go.Proofs.YtcbpppdmkhpkkaaGreat
/- Contract of the reference's Put. -/
namespace Go.Proofs.YtcbpppdmkhpkkaaGreat
open Go.RowKit
set_option maxRecDepth 100000

/-- Which error Put answers (0: none). -/
def putC (X : List Nx) (s : ByteArray) (v : List Nat) (want : Nat) : Nat :=
  if s.size < 1 ∨ 64 < s.size then 10 else if 3840 < v.length then 3 else if want = 0 ∧ atN X s < X.length then 12 else if want ≠ 0 ∧ ¬ atN X s < X.length then 11
  else if atN X s < X.length ∧ (X.getD (atN X s) default).t.ver ≠ want then 13 else if ¬ atN X s < X.length ∧ 256 ≤ X.length then 14 else 0

end Go.Proofs.YtcbpppdmkhpkkaaGreat
/- Contract of the reference's Put where it puts: a new key, a key that is there. -/
namespace Go.Proofs.YtcbpppdmkhpkkaaGreat
open Go.RowKit
set_option maxRecDepth 100000

theorem putC_ok {X : List Nx} {s : ByteArray} {v : List Nat} {want : Nat} (h : putC X s v want = 0) :
    1 ≤ s.size ∧ s.size ≤ 64 ∧ v.length ≤ 3840 ∧ ((want = 0 ∧ ¬ atN X s < X.length ∧ X.length < 256) ∨ (want ≠ 0 ∧ atN X s < X.length ∧ (X.getD (atN X s) default).t.ver = want)) := by
  unfold putC at h
  split at h
  · omega
  split at h
  · omega
  split at h
  · omega
  split at h
  · omega
  split at h
  · omega
  split at h
  · omega
  rename_i h1 h2 h3 h4 h5 h6
  refine ⟨by omega, by omega, by omega, ?_⟩
  by_cases hin : atN X s < X.length
  · right
    refine ⟨fun h0 => h3 ⟨h0, hin⟩, hin, ?_⟩
    rcases Nat.lt_trichotomy (X.getD (atN X s) default).t.ver want with h | h | h
    · exact absurd ⟨hin, by omega⟩ h5
    · exact h
    · exact absurd ⟨hin, by omega⟩ h5
  · left
    refine ⟨?_, hin, ?_⟩
    · rcases Nat.eq_zero_or_pos want with h | h
      · exact h
      · exact absurd ⟨by omega, hin⟩ h4
    · rcases Nat.lt_or_ge X.length 256 with h | h
      · exact h
      · exact absurd ⟨hin, h⟩ h6

/-- What Put leaves where it puts: the nodes X', as nodes L'. -/
def RtPutEnd (w : World) (B p : Nat) (F : List Nat) (L' : List Nd) (ret : Nat) (e : Ending) (w' : World) : Prop :=
  e = .returned (.tuple #[.int .u64 (ret : Nat), .int .i64 0]) ∧ ∃ X', nds X' = L' ∧ RtTo w w' B p F X'

end Go.Proofs.YtcbpppdmkhpkkaaGreat
/- Contract of the reference's Put of a key that is there; Put in all. -/
namespace Go.Proofs.YtcbpppdmkhpkkaaGreat
open Go.RowKit
set_option maxRecDepth 100000

theorem nc_set (X : List Nx) (y : Nx) : ∀ q, q < X.length → y.t.k = (X.getD q default).t.k → y.t.own = (X.getD q default).t.own →
    nc (X.set q y) = ((nc X).set (q * 4 + 1) (.slice y.a y.t.v.length y.c)).set (q * 4 + 2) (.int .u64 (y.t.ver : Nat)) := by
  induction X with
  | nil => intro q h; simp at h
  | cons x X ih =>
    intro q hq hk ho
    have e : nc (x :: X) = .string x.t.k :: .slice x.a x.t.v.length x.c :: .int .u64 (x.t.ver : Nat) :: .int .u64 (x.t.own : Nat) :: nc X := rfl
    rcases q with _ | q
    · simp only [List.getD_cons_zero] at hk ho
      rw [e]
      simp [nc, Nx.cells, hk, ho]
    · have h := ih q (by simpa using hq) (by simpa using hk) (by simpa using ho)
      rw [List.set_cons_succ, nc_cons, h, e, show (q + 1) * 4 + 1 = q * 4 + 1 + 1 + 1 + 1 + 1 by omega, show (q + 1) * 4 + 2 = q * 4 + 2 + 1 + 1 + 1 + 1 by omega]
      rfl
theorem nds_set (X : List Nx) (y : Nx) (q : Nat) : nds (X.set q y) = (nds X).set q y.t := by simp [nds, List.map_set]

/-- Put's answer, and the nodes behind it. -/
def putL (X : List Nx) (s : ByteArray) (v : List Nat) (want own : Nat) : List Nd :=
  if putC X s v want ≠ 0 then nds X else if atN X s < X.length then (nds X).set (atN X s) ⟨s, v, (want + 1) % 18446744073709551616, (X.getD (atN X s) default).t.own⟩ else nds X ++ [⟨s, v, 1, own⟩]
def putR (X : List Nx) (s : ByteArray) (v : List Nat) (want : Nat) : Nat := if putC X s v want ≠ 0 then 0 else (want + 1) % 18446744073709551616
def PutAny (w : World) (B p : Nat) (F : List Nat) (L' : List Nd) (ret code : Nat) (e : Ending) (w' : World) : Prop :=
  e = .returned (.tuple #[.int .u64 (ret : Nat), .int .i64 (code : Nat)]) ∧ ∃ X', nds X' = L' ∧ ∃ a' c', Rt w' B p F a' c' X' ∧ Frm [p] w w'
end Go.Proofs.YtcbpppdmkhpkkaaGreat
/- Put, Delete of the program's tree in all; what the document's tree does is what the program's does. -/
namespace Go.Proofs.YtcbpppdmkhpkkaaGreat
open Go.RowKit
set_option maxRecDepth 100000

/-- Nodes in order, keys and values of lengths that Put lets in. -/
structure Good (L : List Nd) : Prop where
  srt : Srt L
  lens : ∀ d ∈ L, 1 ≤ d.k.size ∧ d.k.size ≤ 64 ∧ d.v.length ≤ 3840
theorem Good.small {L : List Nd} (h : Good L) : ∀ d ∈ L, d.k.size ≤ 64 ∧ d.v.length ≤ 3840 := fun d hd => ⟨(h.lens d hd).2.1, (h.lens d hd).2.2⟩
theorem Good.nil : Good [] := ⟨List.Pairwise.nil, by simp⟩
theorem lenC_ok {k n : Nat} (h : lenC k n = 0) : 1 ≤ k ∧ k ≤ 64 ∧ n ≤ 3840 := by
  unfold lenC at h
  split at h
  · omega
  · split at h <;> omega

def putNC (L : List Nd) (s : ByteArray) (v : List Nat) (want : Nat) : Nat := if lenC s.size v.length ≠ 0 then lenC s.size v.length else unwC L s want
def putNR (L : List Nd) (s : ByteArray) (v : List Nat) (want : Nat) : Nat := if putNC L s v want ≠ 0 then 0 else (want + 1) % 18446744073709551616
def putNL (L : List Nd) (s : ByteArray) (v : List Nat) (want own : Nat) : List Nd :=
  if putNC L s v want ≠ 0 then L
  else if isN L s = true then L.take (ixN L s) ++ ⟨s, v, (want + 1) % 18446744073709551616, (L.getD (ixN L s) default).own⟩ :: L.drop (ixN L s + 1)
  else L.take (ixN L s) ++ ⟨s, v, 1, own⟩ :: L.drop (ixN L s)
theorem unwC_ok {L : List Nd} {s : ByteArray} {want : Nat} (h : unwC L s want = 0) :
    (isN L s = true ∧ want ≠ 0 ∧ (L.getD (ixN L s) default).ver = want) ∨ (isN L s = false ∧ want = 0 ∧ L.length < 256) := by
  unfold unwC at h
  cases his : isN L s
  · rw [his, if_neg (by simp)] at h
    right
    split at h
    · omega
    · split at h <;> refine ⟨rfl, by omega, by omega⟩
  · rw [his, if_pos rfl] at h
    left
    split at h
    · omega
    · split at h
      · omega
      · rename_i h1 h2
        exact ⟨rfl, h1, by omega⟩
theorem Good.put {L : List Nd} (h : Good L) (s : ByteArray) (v : List Nat) (want own : Nat) : Good (putNL L s v want own) := by
  unfold putNL
  by_cases hc : putNC L s v want ≠ 0
  · rw [if_pos hc]; exact h
  · rw [if_neg hc]
    have hl : lenC s.size v.length = 0 := by
      unfold putNC at hc
      by_cases h1 : lenC s.size v.length ≠ 0
      · rw [if_pos h1] at hc; exact absurd h1 hc
      · omega
    obtain ⟨l1, l2, l3⟩ := lenC_ok hl
    cases his : isN L s
    · rw [if_neg (by simp)]
      refine ⟨h.srt.put (d := ⟨s, v, 1, own⟩) his, fun d hd => ?_⟩
      rcases List.mem_append.1 hd with h1 | h1
      · exact h.lens d (List.mem_of_mem_take h1)
      · rcases List.mem_cons.1 h1 with rfl | h1
        · exact ⟨l1, l2, l3⟩
        · exact h.lens d (List.mem_of_mem_drop h1)
    · rw [if_pos rfl]
      obtain ⟨d0, e0, k0, g0, _⟩ := isN_split his
      have hs := h.srt
      rw [e0] at hs
      refine ⟨hs.same (by rw [k0]), fun d hd => ?_⟩
      rcases List.mem_append.1 hd with h1 | h1
      · exact h.lens d (List.mem_of_mem_take h1)
      · rcases List.mem_cons.1 h1 with rfl | h1
        · exact ⟨l1, l2, l3⟩
        · exact h.lens d (List.mem_of_mem_drop h1)

/-- What a call of the program's tree leaves: the nodes L'. -/
def PtAny (w : World) (B p : Nat) (F : List Nat) (L' : List Nd) (v : Value) (e : Ending) (w' : World) : Prop := e = .returned v ∧ PtTo w w' B p F L'
theorem trput_any {w : World} {B p : Nat} {F : List Nat} {a : Option Addr} {cap : Nat} {L : List Nx} {qs : List Nat} (s : ByteArray) (va : Option Addr) (vn vc : Nat) (v : List Nat) (want own : Nat) (h : Pt w B p F a cap L qs) (hG : Good (nds L)) (hF : ∀ x ∈ F, x < w.heap.size)
    (hb : Bytes w va v) (hv : vn = v.length) (hvn : va = none → vc = 0) (hs : s.size ≤ 9223372036854775807) (_hw : want < 18446744073709551616) (ho : own < 18446744073709551616) :
    Calls Tryz.prog 94 #[.pointer (some ⟨p, 0, none⟩), .string s, .slice va vn vc, .int .u64 (want : Nat), .int .u64 (own : Nat)] w (PtAny w B p F (putNL (nds L) s v want own) (.tuple #[.int .u64 (putNR (nds L) s v want : Nat), .int .i64 (putNC (nds L) s v want : Nat)])) := by
  have hself : PtTo w w B p F (nds L) := ⟨a, cap, L, qs, h, rfl, Frm.refl _ _⟩
  have hv63 : vn ≤ 9223372036854775807 := by rw [hv]; exact hb.2.1
  by_cases hl : lenC s.size v.length = 0
  · by_cases hu : unwC (nds L) s want = 0
    · have hc : putNC (nds L) s v want = 0 := by unfold putNC; rw [if_neg (by omega)]; exact hu
      have hR : putNR (nds L) s v want = (want + 1) % 18446744073709551616 := by unfold putNR; rw [if_neg (by omega)]
      rw [hc, hR]
      unfold putNL
      rw [if_neg (by omega)]
      rcases unwC_ok hu with ⟨his, hw0, hver⟩ | ⟨his, rfl, hfew⟩
      · rw [if_pos his]
        refine (put_old s va vn vc v want _ own (ixN (nds L) s) _ h hG.srt hF hb hv hvn (by rw [hv]; exact hl) ?_ his hw0 hver rfl rfl rfl).mono fun _ _ h => h
        have hlt : ixN (nds L) s < L.length := by
          obtain ⟨_, _, _, _, h4⟩ := isN_split his
          rwa [nds_len'] at h4
        rw [nds_getD]
        exact (h.ok _ (by simp [hlt])).own
      · rw [if_neg (by rw [his]; simp)]
        exact (put_new s va vn vc v own (ixN (nds L) s) 1 h hG.srt hF hb hv hvn (by rw [hv]; exact hl) ho his (by rwa [nds_len'] at hfew) rfl rfl).mono fun _ _ h => h
    · have hc : putNC (nds L) s v want = unwC (nds L) s want := by unfold putNC; rw [if_neg (by omega)]
      have hR : putNR (nds L) s v want = 0 := by unfold putNR; rw [if_pos (by omega)]
      rw [hR, hc]
      unfold putNL
      rw [if_pos (by omega)]
      refine (put_unw s va vn vc want own h hG.srt hs hv63 (by rw [hv]; exact hl) hu).mono ?_
      rintro e w' ⟨he, rfl⟩
      exact ⟨he, hself⟩
  · have hc : putNC (nds L) s v want = lenC s.size v.length := by unfold putNC; rw [if_pos hl]
    have hR : putNR (nds L) s v want = 0 := by unfold putNR; rw [if_pos (by omega)]
    rw [hR, hc]
    unfold putNL
    rw [if_pos (by omega)]
    refine (put_len s va vn vc want own h hs hv63 (by rw [hv]; exact hl)).mono ?_
    rintro e w' ⟨he, rfl⟩
    exact ⟨by rw [he, hv]; rfl, hself⟩

def delL (L : List Nd) (s : ByteArray) (want : Nat) : List Nd := if delN L s want = 0 then L.take (ixN L s) ++ L.drop (ixN L s + 1) else L
theorem delN_ok {L : List Nd} {s : ByteArray} {want : Nat} (h : delN L s want = 0) : isN L s = true ∧ (L.getD (ixN L s) default).ver = want := by
  unfold delN at h
  cases his : isN L s
  · rw [his, if_neg (by simp)] at h; omega
  · rw [his, if_pos rfl] at h
    split at h
    · omega
    · exact ⟨rfl, by omega⟩
theorem Good.del {L : List Nd} (h : Good L) (s : ByteArray) (want : Nat) : Good (delL L s want) := by
  unfold delL
  by_cases hc : delN L s want = 0
  · rw [if_pos hc]
    obtain ⟨his, _⟩ := delN_ok hc
    obtain ⟨d0, e0, k0, g0, _⟩ := isN_split his
    have hs := h.srt
    rw [e0] at hs
    refine ⟨hs.less, fun d hd => ?_⟩
    rcases List.mem_append.1 hd with h1 | h1
    · exact h.lens d (List.mem_of_mem_take h1)
    · exact h.lens d (List.mem_of_mem_drop h1)
  · rw [if_neg hc]; exact h
theorem del_any {w : World} {B p : Nat} {F : List Nat} {a : Option Addr} {cap : Nat} {L : List Nx} {qs : List Nat} (s : ByteArray) (want : Nat) (h : Pt w B p F a cap L qs) (hG : Good (nds L)) (hF : ∀ x ∈ F, x < w.heap.size) :
    Calls Tryz.prog 61 #[.pointer (some ⟨p, 0, none⟩), .string s, .int .u64 (want : Nat)] w (PtAny w B p F (delL (nds L) s want) (.int .i64 (delN (nds L) s want : Nat))) := by
  unfold delL
  by_cases hc : delN (nds L) s want = 0
  · rw [if_pos hc, hc]
    obtain ⟨his, hv⟩ := delN_ok hc
    exact (del_ok s want _ h hG.srt hF his hv rfl).mono fun _ _ h => h
  · rw [if_neg hc]
    refine (del_bad s want h hG.srt hc).mono ?_
    rintro e w' ⟨he, rfl⟩
    exact ⟨he, a, cap, L, qs, h, rfl, Frm.refl _ _⟩
theorem Good.drop {L : List Nd} (h : Good L) (o : Nat) : Good (keepD o L) := ⟨h.srt.filter _, fun d hd => h.lens d (List.mem_filter.1 hd).1⟩

/-- The document's tree answers the same. -/
theorem Alike.codeP {L : List Nd} {X : List Nx} (h : Alike L X) (s : ByteArray) (v : List Nat) (want : Nat) : putC X s v want = putNC L s v want := by
  have ht := h.there s
  have hl := h.len
  unfold Go.Proofs.YtcbpppdmkhpkkaaGreat.putC putNC lenC unwC
  by_cases h1 : s.size < 1 ∨ 64 < s.size
  · rw [if_pos h1, if_pos h1, if_pos (by omega)]
  · rw [if_neg h1]
    by_cases h2 : 3840 < v.length
    · rw [if_pos h2, if_neg h1, if_pos h2, if_pos (by omega)]
    · by_cases hin : atN X s < X.length
      · have hnode := h.node hin
        rw [decide_eq_true hin] at ht
        simp only [h1, h2, if_false, ht, if_true, hin, hnode]
        by_cases h3 : want = 0
        · simp [h3]
        · simp [h3]
      · rw [decide_eq_false hin] at ht
        simp only [h1, h2, if_false, ht, hin]
        by_cases h3 : want = 0
        · simp [h3, hl]
        · simp [h3]
theorem Alike.retP {L : List Nd} {X : List Nx} (h : Alike L X) (s : ByteArray) (v : List Nat) (want : Nat) : putR X s v want = putNR L s v want := by
  unfold Go.Proofs.YtcbpppdmkhpkkaaGreat.putR putNR
  rw [h.codeP]
theorem nds_take (X : List Nx) (n : Nat) : nds (X.take n) = (nds X).take n := by simp [nds, List.map_take]
theorem nds_drop (X : List Nx) (n : Nat) : nds (X.drop n) = (nds X).drop n := by simp [nds, List.map_drop]
theorem nds_app (X Y : List Nx) : nds (X ++ Y) = nds X ++ nds Y := by simp [nds]
/-- A node taken out on both sides. -/
theorem Alike.cut {L : List Nd} {X : List Nx} (h : Alike L X) {s : ByteArray} (hin : atN X s < X.length) :
    ∃ d, L = L.take (ixN L s) ++ d :: L.drop (ixN L s + 1) ∧ nds X = (nds X).take (atN X s) ++ d :: (nds X).drop (atN X s + 1) ∧ d.k = s ∧ ((nds X).take (atN X s) ++ (nds X).drop (atN X s + 1)).Perm (L.take (ixN L s) ++ L.drop (ixN L s + 1)) := by
  have ht := h.there s
  rw [decide_eq_true hin] at ht
  obtain ⟨d, e, k, g, _⟩ := isN_split ht
  have hx : nds X = (nds X).take (atN X s) ++ d :: (nds X).drop (atN X s + 1) := by
    have hl : atN X s < (nds X).length := by rw [nds_len']; exact hin
    have hd : (nds X)[atN X s] = d := by
      rw [← g, h.node hin, ← nds_getD]; simp [hl]
    conv => lhs; rw [← List.take_append_drop (atN X s) (nds X), List.drop_eq_getElem_cons hl, hd]
  refine ⟨d, e, hx, k, ?_⟩
  have hp := h.perm
  rw [hx, e] at hp
  have := (List.perm_middle.symm.trans (hp.trans List.perm_middle))
  exact List.Perm.cons_inv this
theorem Alike.put {L : List Nd} {X X' : List Nx} (h : Alike L X) (hG : Good L) (s : ByteArray) (v : List Nat) (want own : Nat) (hX : nds X' = putL X s v want own) : Alike (putNL L s v want own) X' := by
  refine ⟨(hG.put s v want own).srt, ?_⟩
  rw [hX]
  unfold putL putNL
  rw [h.codeP]
  by_cases hc : putNC L s v want ≠ 0
  · rw [if_pos hc, if_pos hc]; exact h.perm
  · rw [if_neg hc, if_neg hc, h.there s]
    by_cases hin : atN X s < X.length
    · rw [if_pos hin, if_pos (by simp [hin]), h.node hin]
      obtain ⟨d, e1, e2, e3, hp⟩ := h.cut hin
      have hset : ∀ e : Nd, (nds X).set (atN X s) e = (nds X).take (atN X s) ++ e :: (nds X).drop (atN X s + 1) := fun e => by
        have hl : atN X s < (nds X).length := by rw [nds_len']; exact hin
        rw [List.set_eq_take_append_cons_drop, if_pos hl]
      rw [hset]
      exact List.perm_middle.trans ((hp.cons _).trans List.perm_middle.symm)
    · rw [if_neg hin, if_neg (by simp [hin])]
      have h1 : (nds X ++ [(⟨s, v, 1, own⟩ : Nd)]).Perm (⟨s, v, 1, own⟩ :: L) := (List.perm_append_singleton _ _).trans (h.perm.cons _)
      refine h1.trans ?_
      conv => lhs; rw [← List.take_append_drop (ixN L s) L]
      exact List.perm_middle.symm
theorem Alike.codeD {L : List Nd} {X : List Nx} (h : Alike L X) (s : ByteArray) (want : Nat) : delC X s want = delN L s want := by
  unfold Go.Proofs.YtcbpppdmkhpkkaaGreat.delC delN
  rw [h.there s]
  by_cases hin : atN X s < X.length
  · rw [if_neg (show ¬ ¬ atN X s < X.length from fun h => h hin), decide_eq_true hin, if_pos rfl, h.node hin]
  · rw [if_pos hin, if_neg (by simp [hin])]
theorem Alike.del {L : List Nd} {X X' : List Nx} (h : Alike L X) (hG : Good L) (s : ByteArray) (want : Nat) (hX : X' = if delC X s want = 0 then X.take (atN X s) ++ X.drop (atN X s + 1) else X) : Alike (delL L s want) X' := by
  refine ⟨(hG.del s want).srt, ?_⟩
  subst hX
  unfold delL
  rw [h.codeD]
  by_cases hc : delN L s want = 0
  · rw [if_pos hc, if_pos hc, nds_app, nds_take, nds_drop]
    have his := (delN_ok hc).1
    rw [h.there s] at his
    obtain ⟨d, e1, e2, e3, hp⟩ := h.cut (of_decide_eq_true his)
    exact hp
  · rw [if_neg hc, if_neg hc]; exact h.perm
theorem keepO_nds (o : Nat) (X : List Nx) : nds (keepO o X) = keepD o (nds X) := keepD_nds o X
theorem Alike.drop {L : List Nd} {X : List Nx} (h : Alike L X) (o : Nat) : Alike (keepD o L) (keepO o X) := by
  refine ⟨h.srt.filter _, ?_⟩
  rw [keepO_nds]
  exact h.perm.filter _

/-- The document's list. -/
theorem pos_ix (Y : List Nx) (K : ByteArray) : pos Y K = ixN (nds Y) K := by
  unfold pos ixN nds
  rw [List.findIdx_map]
  rfl
theorem ins_nds (x : Nx) (Y : List Nx) : nds (ins x Y) = (nds Y).take (ixN (nds Y) x.t.k) ++ x.t :: (nds Y).drop (ixN (nds Y) x.t.k) := by
  unfold ins
  rw [nds_app, nds_take, pos_ix, nds_app, nds_drop]
  rfl
theorem preB_pfx (P K : ByteArray) : preB P K = pfx P K := by unfold preB pfx; exact Lib.hasPrefix_raw K P
theorem Alike.dis {L : List Nd} {X : List Nx} (h : Alike L X) : (nds X).Pairwise (fun a b => a.k ≠ b.k) :=
  (List.Perm.pairwise_iff (fun {_ _} h => Ne.symm h) h.perm).2 (List.Pairwise.imp (fun h => kl_ne h) h.srt)
theorem lsN_inv (P : ByteArray) (X : List Nx) (hd : (nds X).Pairwise (fun a b => a.k ≠ b.k)) : ∀ k, k ≤ X.length → Srt (nds (lsN P (X.take k))) ∧ (nds (lsN P (X.take k))).Perm (((nds X).take k).filter (fun d => pfx P d.k))
  | 0, _ => by simp [lsN, nds, Srt]
  | k + 1, hk => by
    obtain ⟨h1, h2⟩ := lsN_inv P X hd k (by omega)
    have hkl : k < X.length := by omega
    have hkn : k < (nds X).length := by rw [nds_len']; exact hkl
    have e : (nds X)[k] = (X.getD k default).t := by rw [← nds_getD]; simp [hkn]
    rw [lsN_take hkl, preB_pfx, List.take_succ_eq_append_getElem hkn, List.filter_append, e]
    cases hp : pfx P (X.getD k default).t.k
    · rw [if_neg (by simp)]
      have e0 : List.filter (fun d => pfx P d.k) [(X.getD k default).t] = [] := by rw [List.filter_cons, if_neg (by rw [hp]; simp)]; rfl
      rw [e0, List.append_nil]
      exact ⟨h1, h2⟩
    · rw [if_pos rfl, ins_nds]
      have hno : isN (nds (lsN P (X.take k))) (X.getD k default).t.k = false := by
        cases his : isN (nds (lsN P (X.take k))) (X.getD k default).t.k with
        | false => rfl
        | true =>
          obtain ⟨d, hd1, hd2⟩ := (isN_iff h1).1 his
          have hd3 := (List.mem_filter.1 (h2.subset hd1)).1
          obtain ⟨i, hi, rfl⟩ := List.getElem_of_mem hd3
          rw [List.length_take] at hi
          have := List.pairwise_iff_getElem.1 hd i k (by omega) hkn (by omega)
          rw [e] at this
          rw [List.getElem_take] at hd2
          exact absurd hd2 this
      refine ⟨h1.put hno, ?_⟩
      have hm := (List.perm_middle (a := (X.getD k default).t) (l₁ := (nds (lsN P (X.take k))).take (ixN (nds (lsN P (X.take k))) (X.getD k default).t.k)) (l₂ := (nds (lsN P (X.take k))).drop (ixN (nds (lsN P (X.take k))) (X.getD k default).t.k)))
      rw [List.take_append_drop] at hm
      refine hm.trans ((h2.cons _).trans ?_)
      simp only [List.filter_cons, hp, if_true, List.filter_nil]
      exact (List.perm_append_singleton _ _).symm
theorem Alike.list {L : List Nd} {X : List Nx} (h : Alike L X) (P : ByteArray) : nds (lsN P X) = L.filter (fun d => pfx P d.k) := by
  obtain ⟨h1, h2⟩ := lsN_inv P X h.dis X.length (Nat.le_refl _)
  rw [List.take_of_length_le (Nat.le_refl _)] at h1 h2
  rw [List.take_of_length_le (by rw [nds_len']; exact Nat.le_refl _)] at h2
  exact h1.eq (h.srt.filter _) (h2.trans (h.perm.filter _))
theorem Alike.nil : Alike [] [] := ⟨List.Pairwise.nil, by simp [nds]⟩
end Go.Proofs.YtcbpppdmkhpkkaaGreat
/- Contracts of the program's right and of the reference's Loads: can nodes be a tree's? -/
namespace Go.Proofs.YtcbpppdmkhpkkaaGreat
open Go.RowKit
set_option maxRecDepth 100000

/-- Is the node at i one that a tree may have there? -/
def okAt (X : List Nd) (i : Nat) : Prop := lenC (X.getD i default).k.size (X.getD i default).v.length = 0 ∧ (X.getD i default).ver ≠ 0 ∧ (0 < i → kl (X.getD (i - 1) default).k (X.getD i default).k = true)
def LoadsP (X : List Nd) : Prop := X.length ≤ 256 ∧ ∀ i, i < X.length → okAt X i
theorem kl_cases (a b : ByteArray) : (kl a b = true ∧ Op.bytesLess b.toList a.toList = false ∧ (b.toList == a.toList) = false) ∨ (kl a b = false ∧ Op.bytesLess b.toList a.toList = true) ∨ (kl a b = false ∧ Op.bytesLess b.toList a.toList = false ∧ (b.toList == a.toList) = true) := by
  cases h : kl a b
  · right
    cases h2 : Op.bytesLess b.toList a.toList
    · right
      have e := kl_tot h h2
      subst e
      exact ⟨rfl, rfl, by simp⟩
    · exact .inl ⟨rfl, rfl⟩
  · refine .inl ⟨rfl, kl_asym h, txt_ne (fun e => kl_ne h e.symm)⟩
def BoolF (w : World) (P : Prop) (e : Ending) (w' : World) : Prop := (∃ b : Bool, e = .returned (.bool b) ∧ (b = true ↔ P)) ∧ Frm [] w w'

set_option maxRecDepth 100000 in
set_option maxHeartbeats 4000000 in
theorem right_any (a : Option Addr) (n c : Nat) (X : List Nx) (F : List Nat) (w : World) (h : NL w F a X) (hn : n = X.length) (hfit : n ≤ 9223372036854775807) :
    Calls Tryz.prog 127 #[.slice a n c] w (BoolF w (LoadsP (nds X))) := by
  have H := Lib.hid h; clear h
  have HN := Lib.hid hn; clear hn
  by_cases hbig : 256 < n
  · have HE : Hid (∀ z, Frm [] w z → BoolF w (LoadsP (nds X)) (.returned (.bool false)) z) := Lib.hid fun z hz => ⟨⟨false, rfl, by simp; intro h; have := h.1; rw [nds_len', ← HN.out] at this; omega⟩, hz⟩
    go_enter Tryz.func127, Tryz.ntmps127
    go_wp2
    go_ret
    exact HE.out _ (Frm.refl _ _)
  · go_enter Tryz.func127, Tryz.ntmps127
    go_wp2
    go_loopw [10] (fun u10 wr => ∃ k : Nat, k ≤ n ∧ u10 = .int .i64 (k : Nat) ∧ Hid (∀ i, i < k → okAt (nds X) i) ∧ Frm [] w wr) (fun u10 _ => n - (intOf u10).toNat)
    case atStart => exact ⟨0, Nat.zero_le _, rfl, Lib.hid (fun i hi => absurd hi (Nat.not_lt_zero _)), Frm.refl _ _⟩
    case round =>
      obtain ⟨k, hk, rfl, HOK, hf⟩ := hrel
      have HF := Lib.hid hf; clear hf
      by_cases hlt : k < n
      · have hkX : k < X.length := by have := HN.out; omega
        obtain ⟨b, off, rfl, p0, p1, p2, p3, ok⟩ := (H.out.keep (F' := F) HF.out (by simp) (fun x h => .inl h)).at hkX
        have hokd : okAt (nds X) k ↔ lenC (X.getD k default).t.k.size (X.getD k default).t.v.length = 0 ∧ (X.getD k default).t.ver ≠ 0 ∧ (0 < k → kl ((nds X).getD (k - 1) default).k (X.getD k default).t.k = true) := by
          unfold okAt; rw [nds_getD (i := k)]
        have hvl := ok.bytes.2.1
        have hkl := ok.key
        have hpk : ((nds X).getD (k - 1) default).k = (X.getD (k - 1) default).t.k := by rw [nds_getD]
        have hprev : 0 < k → wr.cell? ⟨b, off + (k - 1) * 4, none⟩ = some (.string ((nds X).getD (k - 1) default).k) := fun h0 => by
          obtain ⟨b', off', e, q0, _⟩ := (H.out.keep (F' := F) HF.out (by simp) (fun x h => .inl h)).at (i := k - 1) (by omega)
          cases e
          rw [hpk]; exact q0
        obtain ⟨x, hx⟩ : ∃ x, x = X.getD k default := ⟨_, rfl⟩
        rw [← hx] at p0 p1 p2 p3 hokd hvl hkl
        obtain ⟨⟨xk, xv, xver, xown⟩, xa, xc⟩ := x
        simp only at p0 p1 p2 p3 hokd hvl hkl
        obtain ⟨m, hm⟩ : ∃ m, m = xv.length := ⟨_, rfl⟩
        rw [← hm] at p1 hokd hvl
        obtain ⟨pk, hpke⟩ : ∃ pk, pk = ((nds X).getD (k - 1) default).k := ⟨_, rfl⟩
        rw [← hpke] at hokd hprev
        have HOD := Lib.hid hokd
        have HPREV := Lib.hid hprev
        obtain ⟨g, hg⟩ : ∃ g, g = wr.heap.size := ⟨_, rfl⟩
        obtain ⟨w2, hw2⟩ : ∃ w2, w2 = wr.alloc (.cells #[.string xk, .slice xa m xc, .int .u64 (xver : Nat), .int .u64 (xown : Nat)] 58) := ⟨_, rfl⟩
        have hW2 := Whole.made wr 58 #[.string xk, .slice xa m xc, .int .u64 (xver : Nat), .int .u64 (xown : Nat)]
        rw [← hw2, ← hg] at hW2
        have hf2 : Frm [] wr w2 := by rw [hw2]; exact (Frm.refl _ _).alloc _
        have e0 := hW2.cell 0
        have e1 := hW2.cell 1
        have e2 := hW2.cell 2
        simp at e0 e1 e2
        have HW2 := Lib.hid hw2
        have HG := Lib.hid hg
        have HF2 := Lib.hid (HF.out.trans hf2 (U := []) (by simp) (by simp))
        have HLE := Lib.hid (fun z => lengths_any xk xa m xc z hkl hvl)
        have HPV2 : Hid (0 < k → w2.cell? ⟨b, off + (k - 1) * 4, none⟩ = some (.string pk)) := Lib.hid fun h0 => (hf2.cell (block_lt_of_cell (HPREV.out h0)) (by simp)).trans (HPREV.out h0)
        have HBAD : Hid (¬ okAt (nds X) k → ∀ z, Frm [] w z → BoolF w (LoadsP (nds X)) (.returned (.bool false)) z) := Lib.hid fun hno z hz => ⟨⟨false, rfl, by simp; intro h; exact hno (h.2 k (by rw [nds_len']; exact hkX))⟩, hz⟩
        have HNEXT : Hid (okAt (nds X) k → ∀ i, i < k + 1 → okAt (nds X) i) := Lib.hid fun ho i hi => by
          rcases Nat.lt_or_ge i k with h | h
          · exact HOK.out i h
          · have : i = k := by omega
            subst this; exact ho
        have hs1 : 0 < k → IntKind.i64.wrap ((k : Int) - 1) = ((k - 1 : Nat) : Int) := fun h0 => by rw [IntWalk.i64_in _ (by omega)]; omega
        have HS1 := Lib.hid hs1
        clear hokd hprev hx hm hpke hpk ok hw2 hg hW2 hf2 hkX hvl hkl hs1 HPREV
        by_cases hver : xver = 0
        · have hno : ¬ okAt (nds X) k := fun h => (HOD.out.1 h).2.1 hver
          have HB := Lib.hid (HBAD.out hno)
          have hv0 : ((xver : Int) == 0) = true := by rw [beq_iff_eq]; omega
          clear hno hver
          go_wp2
          rw [← HW2.out, ← HG.out]
          go_quiet (fail)
          go_wp2
          go_ret
          exact HB.out _ (HF2.out.drewN _)
        have hv0 : ((xver : Int) == 0) = false := by rw [beq_eq_false_iff_ne]; omega
        by_cases hlc : lenC xk.size m = 0
        · have HL0 : Hid (∀ z, Calls Tryz.prog 128 #[.string xk, .slice xa m xc] z fun e w' => e = .returned (.int .i64 0) ∧ w' = z) := Lib.hid fun z => (HLE.out z).mono fun _ _ h => ⟨by rw [h.1, hlc]; rfl, h.2.symm⟩
          by_cases hk0 : k = 0
          · have hyes : okAt (nds X) k := HOD.out.2 ⟨hlc, hver, fun h => by omega⟩
            have HY := Lib.hid (HNEXT.out hyes)
            have hk1 : ¬ 0 < k := by omega
            clear hyes hlc hver hk0
            go_wp2
            rw [← HW2.out, ← HG.out]
            go_quiet ((go_at_call 128; exact Calls.quiet_of_same (HL0.out _)))
            go_wp2
            go_roundw
            case rel => exact ⟨k + 1, by omega, by go_num, HY, HF2.out.drewN _⟩
            case measure => simp [intOf]; omega
          · have hk1 : 0 < k := by omega
            have e3 := HPV2.out hk1
            have hs2 := HS1.out hk1
            obtain ⟨j, hj⟩ : ∃ j, j = k - 1 := ⟨_, rfl⟩
            rw [← hj] at e3 hs2
            have hjn : j < n := by omega
            have hs3 : (k : Int) - 1 = (j : Int) := by omega
            have HK := Lib.hid (kl_cases pk xk)
            rcases HK.out with ⟨hkl, hb1, hb2⟩ | ⟨hkl, hb1⟩ | ⟨hkl, hb1, hb2⟩
            · have hyes : okAt (nds X) k := HOD.out.2 ⟨hlc, hver, fun _ => hkl⟩
              have HY := Lib.hid (HNEXT.out hyes)
              clear hyes hlc hver hkl hj hk0
              go_wp2
              rw [← HW2.out, ← HG.out]
              go_quiet ((go_at_call 128; exact Calls.quiet_of_same (HL0.out _)))
              go_wp2
              go_roundw
              case rel => exact ⟨k + 1, by omega, by go_num, HY, HF2.out.drewN _⟩
              case measure => simp [intOf]; omega
            · have hno : ¬ okAt (nds X) k := fun h => by have := (HOD.out.1 h).2.2 hk1; rw [hkl] at this; cases this
              have HB := Lib.hid (HBAD.out hno)
              clear hno hlc hver hkl hj hk0
              go_wp2
              rw [← HW2.out, ← HG.out]
              go_quiet ((go_at_call 128; exact Calls.quiet_of_same (HL0.out _)))
              go_wp2
              go_ret
              exact HB.out _ (HF2.out.drewN _)
            · have hno : ¬ okAt (nds X) k := fun h => by have := (HOD.out.1 h).2.2 hk1; rw [hkl] at this; cases this
              have HB := Lib.hid (HBAD.out hno)
              clear hno hlc hver hkl hj hk0
              go_wp2
              rw [← HW2.out, ← HG.out]
              go_quiet ((go_at_call 128; exact Calls.quiet_of_same (HL0.out _)))
              go_wp2
              go_ret
              exact HB.out _ (HF2.out.drewN _)
        · have hno : ¬ okAt (nds X) k := fun h => hlc (HOD.out.1 h).1
          have HB := Lib.hid (HBAD.out hno)
          obtain ⟨lc, hlce⟩ : ∃ lc, lc = lenC xk.size m := ⟨_, rfl⟩
          rw [← hlce] at hlc
          have HL0 : Hid (∀ z, Calls Tryz.prog 128 #[.string xk, .slice xa m xc] z fun e w' => e = .returned (.int .i64 (lc : Nat)) ∧ w' = z) := Lib.hid fun z => (HLE.out z).mono fun _ _ h => ⟨by rw [h.1, hlce], h.2.symm⟩
          have hl0 : ((lc : Int) != 0) = true := by rw [bne_iff_ne]; omega
          clear hno hver hlc hlce
          go_wp2
          rw [← HW2.out, ← HG.out]
          go_quiet ((go_at_call 128; exact Calls.quiet_of_same (HL0.out _)))
          go_wp2
          go_ret
          exact HB.out _ (HF2.out.drewN _)
      · obtain rfl : k = n := by omega
        have HE : Hid (BoolF w (LoadsP (nds X)) (.returned (.bool true)) wr) := Lib.hid ⟨⟨true, rfl, by simp; exact ⟨by rw [nds_len', ← HN.out]; omega, fun i hi => HOK.out i (by rw [nds_len', ← HN.out] at hi; exact hi)⟩⟩, HF.out⟩
        go_wp2
        go_ret
        exact HE.out
end Go.Proofs.YtcbpppdmkhpkkaaGreat
/- Sessions by their Ids: what right ones are, where one stands, what a book becomes by each call; the program's book in memory. They speak of no function. -/
namespace Go.Proofs.YtcbpppdmkhpkkaaGreat
open Go.RowKit

/-- Ids rise, from 1 to last. -/
structure SrtS (last : Nat) (X : List Sn) : Prop where
  rise : X.Pairwise (fun a b => a.id < b.id)
  from1 : ∀ x ∈ X, 0 < x.id ∧ x.id ≤ last
theorem getS {X : List Sn} {i : Nat} (h : i < X.length) : X.getD i default = X[i] := by simp [h]
theorem SrtS.lt {last : Nat} {X : List Sn} (h : SrtS last X) {i j : Nat} (hij : i < j) (hj : j < X.length) : (X.getD i default).id < (X.getD j default).id := by
  rw [getS (by omega), getS hj]
  exact List.pairwise_iff_getElem.1 h.rise i j (by omega) hj hij
theorem atS_eq {X : List Sn} {id k : Nat} (hk : k < X.length) (h1 : (X.getD k default).id = id) (h2 : ∀ t, t < k → (X.getD t default).id ≠ id) : atS X id = k := by
  rcases Nat.lt_trichotomy (atS X id) k with h | h | h
  · exact absurd (atS_at (X := X) (id := id) (by omega)) (h2 _ h)
  · exact h
  · exact absurd h1 (atS_before h)
theorem atS_none {X : List Sn} {id : Nat} (h : ∀ t, t < X.length → (X.getD t default).id ≠ id) : ¬ atS X id < X.length := fun h1 => h _ h1 (atS_at h1)
theorem SrtS.nil (last : Nat) : SrtS last [] := ⟨List.Pairwise.nil, by simp⟩
theorem SrtS.sub {last : Nat} {X Y : List Sn} (h : SrtS last X) (hs : Y.Sublist X) : SrtS last Y := ⟨h.rise.sublist hs, fun x hx => h.from1 x (hs.subset hx)⟩
theorem SrtS.push {last : Nat} {X : List Sn} (h : SrtS last X) (s : Sn) (h1 : ∀ x ∈ X, x.id < s.id) (h0 : 0 < s.id) (h2 : s.id ≤ last) : SrtS last (X ++ [s]) := by
  refine ⟨List.pairwise_append.2 ⟨h.rise, List.pairwise_singleton _ _, fun a ha b hb => ?_⟩, fun x hx => ?_⟩
  · simp at hb; subst hb; exact h1 a ha
  · rcases List.mem_append.1 hx with hx | hx
    · exact h.from1 x hx
    · simp at hx; subst hx; exact ⟨h0, h2⟩
theorem SrtS.more {last l' : Nat} {X : List Sn} (h : SrtS last X) (hl : last ≤ l') : SrtS l' X := ⟨h.rise, fun x hx => ⟨(h.from1 x hx).1, Nat.le_trans (h.from1 x hx).2 hl⟩⟩
theorem SrtS.ends {last : Nat} {X : List Sn} (h : SrtS last X) (i : Nat) (e : Nat) (hi : i < X.length) : SrtS last (X.set i { X.getD i default with ends := e }) := by
  have hid : (X.set i { X.getD i default with ends := e }).map Sn.id = X.map Sn.id := by
    rw [List.map_set]
    apply List.ext_getElem
    · simp
    · intro j h1 h2
      simp only [List.getElem_set, List.getElem_map]
      split
      · rename_i hji; subst hji; rw [getS hi]
      · rfl
  refine ⟨?_, fun x hx => ?_⟩
  · have := h.rise
    rw [← List.pairwise_map (f := Sn.id) (R := (· < ·))] at this ⊢
    rw [hid]; exact this
  · have hm : x.id ∈ X.map Sn.id := by rw [← hid]; exact List.mem_map_of_mem hx
    obtain ⟨y, hy, he⟩ := List.mem_map.1 hm
    rw [← he]; exact h.from1 y hy

/-- One session ahead of those behind it: what New asks of it. -/
def CondS (last : Nat) (L : List Sn) (i : Nat) : Prop := 0 < (L.getD i default).id ∧ (L.getD i default).id ≤ last ∧ 1 ≤ (L.getD i default).life ∧ (L.getD i default).life ≤ 1099511627776 ∧ (0 < i → (L.getD (i - 1) default).id < (L.getD i default).id)
instance (last : Nat) (L : List Sn) (i : Nat) : Decidable (CondS last L i) := by unfold CondS; infer_instance
def RightS (last : Nat) (L : List Sn) : Prop := L.length ≤ 16 ∧ ∀ i, i < L.length → CondS last L i
instance (last : Nat) (L : List Sn) : Decidable (RightS last L) := by unfold RightS; infer_instance
theorem RightS.srt {last : Nat} {L : List Sn} (h : RightS last L) : SrtS last L := by
  refine ⟨?_, fun x hx => ?_⟩
  · rw [List.pairwise_iff_getElem]
    intro i j hi hj hij
    have key : ∀ d i, i + d + 1 < L.length → (L.getD i default).id < (L.getD (i + d + 1) default).id := by
      intro d
      induction d with
      | zero => intro i hi2; exact (h.2 (i + 1) hi2).2.2.2.2 (by omega)
      | succ d ih =>
        intro i hi2
        have h1 := ih i (by omega)
        have h2 := (h.2 (i + (d + 1) + 1) hi2).2.2.2.2 (by omega)
        have e : i + (d + 1) + 1 - 1 = i + d + 1 := by omega
        rw [e] at h2
        exact Nat.lt_trans h1 h2
    have := key (j - i - 1) i (by omega)
    rw [show i + (j - i - 1) + 1 = j by omega, getS hi, getS hj] at this
    exact this
  · obtain ⟨i, hi, rfl⟩ := List.getElem_of_mem hx
    have := h.2 i hi
    unfold CondS at this
    rw [getS hi] at this
    exact ⟨this.1, this.2.1⟩

/-- What the calls make of the sessions. -/
def renewS (X : List Sn) (i now : Nat) : List Sn := X.set i { X.getD i default with ends := max (X.getD i default).ends (sumU now (X.getD i default).life) }
def closeS (X : List Sn) (i : Nat) : List Sn := X.take i ++ X.drop (i + 1)
def overS (now : Nat) (x : Sn) : Bool := decide (x.ends ≤ now)
def goneS (now : Nat) (X : List Sn) : List Nat := (X.filter (overS now)).map Sn.id
def leftS (now : Nat) (X : List Sn) : List Sn := X.filter (fun x => !overS now x)
theorem closeS_sub (X : List Sn) (i : Nat) : (closeS X i).Sublist X := by
  have h : (X.drop (i + 1)).Sublist (X.drop i) := List.drop_sublist_drop_left X (by omega)
  have := List.Sublist.append (List.Sublist.refl (X.take i)) h
  rwa [List.take_append_drop] at this
theorem leftS_sub (now : Nat) (X : List Sn) : (leftS now X).Sublist X := List.filter_sublist
theorem sumU_lt (a b : Nat) : sumU a b < 18446744073709551616 := by unfold sumU; split <;> omega
theorem leftS_take {now : Nat} {X : List Sn} {k : Nat} (h : k < X.length) : leftS now (X.take (k + 1)) = leftS now (X.take k) ++ if (X.getD k default).ends ≤ now then [] else [X.getD k default] := by
  rw [getS h]
  unfold leftS
  rw [List.take_succ_eq_append_getElem h, List.filter_append]
  congr 1
  by_cases h1 : X[k].ends ≤ now
  · rw [if_pos h1, List.filter_cons, if_neg (by simpa [overS] using h1)]; rfl
  · rw [if_neg h1, List.filter_cons, if_pos (by simpa [overS] using h1)]; rfl
theorem goneS_take {now : Nat} {X : List Sn} {k : Nat} (h : k < X.length) : goneS now (X.take (k + 1)) = goneS now (X.take k) ++ if (X.getD k default).ends ≤ now then [(X.getD k default).id] else [] := by
  rw [getS h]
  unfold goneS
  rw [List.take_succ_eq_append_getElem h, List.filter_append, List.map_append]
  congr 1
  by_cases h1 : X[k].ends ≤ now
  · rw [if_pos h1, List.filter_cons, if_pos (by simpa [overS] using h1)]; rfl
  · rw [if_neg h1, List.filter_cons, if_neg (by simpa [overS] using h1)]; rfl
theorem leftS_len (now : Nat) (X : List Sn) (k : Nat) : (leftS now (X.take k)).length ≤ k := Nat.le_trans (List.length_filter_le _ _) (by simp; omega)
theorem goneS_len (now : Nat) (X : List Sn) (k : Nat) : (goneS now (X.take k)).length ≤ k := by
  unfold goneS; rw [List.length_map]; exact Nat.le_trans (List.length_filter_le _ _) (by simp; omega)
theorem goneS_mem {now : Nat} {X : List Sn} : ∀ n ∈ goneS now X, ∃ x ∈ X, n = x.id := by
  intro n hn
  obtain ⟨x, hx, rfl⟩ := List.mem_map.1 hn
  exact ⟨x, (List.mem_filter.1 hx).1, rfl⟩

/-! The program's book: a number, a count, sixteen sessions. -/
def bkL (last n : Nat) (Y : List Sn) : List Value := .int .u64 (last : Nat) :: .int .i64 (n : Nat) :: snc Y
theorem bkL_length (last n : Nat) (Y : List Sn) : (bkL last n Y).length = 2 + Y.length * 3 := by simp [bkL, snc_length]; omega
theorem bkL_row (last n : Nat) (Y : List Sn) (j : Nat) : (bkL last n Y)[2 + j]? = (snc Y)[j]? := by
  rw [Nat.add_comm]; rfl
theorem bkL_one (last n : Nat) (Y : List Sn) : ∀ u ∈ bkL last n Y, u.oneCell' = true := by
  intro u hu
  simp only [bkL, List.mem_cons] at hu
  rcases hu with rfl | rfl | hu
  · rfl
  · rfl
  · exact snc_one _ u hu
/-- The program's book at p: the last Id, the sessions X, in the row Y. -/
structure Bk (w : World) (B p : Nat) (t : TypeId) (last : Nat) (X Y : List Sn) : Prop where
  book : Whole w p t (bkL last X.length Y).toArray
  pre : Y.take X.length = X
  len : Y.length = 16
  fits : ∀ y ∈ Y, y.fits
  hp : B ≤ p
  lt : last < 18446744073709551616
  srt : SrtS last X
section
variable {w w' : World} {B p : Nat} {t : TypeId} {F S : List Nat} {last : Nat} {X Y : List Sn}
theorem Bk.few (h : Bk w B p t last X Y) : X.length ≤ 16 := by
  have := congrArg List.length h.pre
  rw [List.length_take, h.len] at this; omega
theorem Bk.keep (h : Bk w B p t last X Y) (hf : Frm S w w') (hS : p ∉ S) : Bk w' B p t last X Y := { h with book := hf.whole h.book hS }
theorem Bk.fitsX (h : Bk w B p t last X Y) : ∀ x ∈ X, x.fits := fun x hx => h.fits x (by rw [← h.pre] at hx; exact List.mem_of_mem_take hx)
theorem Bk.get (h : Bk w B p t last X Y) {i : Nat} (hi : i < X.length) : Y.getD i default = X.getD i default := by
  have hl := h.len
  have hf := h.few
  rw [getS hi, getS (by omega)]
  have e : X[i]? = Y[i]? := by
    conv => lhs; rw [← h.pre]
    rw [List.getElem?_take, if_pos hi]
  rw [List.getElem?_eq_getElem hi, List.getElem?_eq_getElem (by omega)] at e
  exact (Option.some.inj e).symm
theorem Bk.cells (h : Bk w B p t last X Y) (j : Nat) : w.cell? ⟨p, 2 + j, none⟩ = (snc Y)[j]? := by
  rw [h.book.cell, List.getElem?_toArray, bkL_row]
theorem Bk.c0 (h : Bk w B p t last X Y) : w.cell? ⟨p, 0, none⟩ = some (.int .u64 (last : Nat)) := by rw [h.book.cell]; rfl
theorem Bk.c1 (h : Bk w B p t last X Y) : w.cell? ⟨p, 1, none⟩ = some (.int .i64 (X.length : Nat)) := by rw [h.book.cell]; rfl
theorem Bk.vals (h : Bk w B p t last X Y) : ValsAt w (some ⟨p, 2, none⟩) (snc X) := by
  refine .inr ⟨p, 2, rfl, fun i u hu => ?_⟩
  rw [h.cells]
  rw [← h.pre, snc_take, List.getElem?_take] at hu
  split at hu
  · exact hu
  · cases hu
theorem Bk.sl (h : Bk w B p t last X Y) (hF : p ∉ F) : SL w F (some ⟨p, 2, none⟩) X := ⟨h.vals, h.fitsX, fun _ q hq => by cases hq; exact hF⟩
theorem Bk.at (h : Bk w B p t last X Y) {i : Nat} (hi : i < X.length) :
    w.cell? ⟨p, 2 + i * 3, none⟩ = some (.int .u64 ((X.getD i default).id : Nat)) ∧ w.cell? ⟨p, 2 + i * 3 + 1, none⟩ = some (.int .u64 ((X.getD i default).ends : Nat)) ∧
      w.cell? ⟨p, 2 + i * 3 + 2, none⟩ = some (.int .u64 ((X.getD i default).life : Nat)) ∧ (X.getD i default).fits := by
  have hf := h.few
  obtain ⟨h0, h1, h2⟩ := snc_at Y i (by have := h.len; omega)
  rw [h.get hi] at h0 h1 h2
  refine ⟨by rw [h.cells]; exact h0, by rw [Nat.add_assoc, h.cells]; exact h1, by rw [Nat.add_assoc, h.cells]; exact h2, h.fitsX _ (by rw [getS hi]; exact List.getElem_mem hi)⟩
end
/-- A cell of a row of sessions is set. -/
theorem snc_set (Y : List Sn) (s : Sn) : ∀ i, i < Y.length → (((snc Y).set (i * 3) (.int .u64 (s.id : Nat))).set (i * 3 + 1) (.int .u64 (s.ends : Nat))).set (i * 3 + 2) (.int .u64 (s.life : Nat)) = snc (Y.set i s) := by
  induction Y with
  | nil => intro i hi; simp at hi
  | cons y Y ih =>
    intro i hi
    have e : snc (y :: Y) = .int .u64 (y.id : Nat) :: .int .u64 (y.ends : Nat) :: .int .u64 (y.life : Nat) :: snc Y := rfl
    rcases i with _ | i
    · rfl
    · have := ih i (by simpa using hi)
      have e2 : snc ((y :: Y).set (i + 1) s) = .int .u64 (y.id : Nat) :: .int .u64 (y.ends : Nat) :: .int .u64 (y.life : Nat) :: snc (Y.set i s) := rfl
      rw [e2, ← this, e, show (i + 1) * 3 = i * 3 + 1 + 1 + 1 by omega]
      rfl
theorem snc_ends (Y : List Sn) (i e : Nat) (hi : i < Y.length) : (snc Y).set (i * 3 + 1) (.int .u64 (e : Nat)) = snc (Y.set i { Y.getD i default with ends := e }) := by
  obtain ⟨h0, _, h2⟩ := snc_at Y i hi
  rw [← snc_set Y { Y.getD i default with ends := e } i hi]
  have h3 : i * 3 < (snc Y).length := by rw [snc_length]; omega
  have h4 : i * 3 + 2 < (snc Y).length := by rw [snc_length]; omega
  have e1 : (snc Y).set (i * 3) (.int .u64 ((Y.getD i default).id : Nat)) = snc Y := by
    rw [List.getElem?_eq_getElem h3] at h0
    rw [← Option.some.inj h0]; exact List.set_getElem_self h3
  rw [e1]
  rw [List.set_comm _ _ (by omega)]
  have e2 : (snc Y).set (i * 3 + 2) (.int .u64 ((Y.getD i default).life : Nat)) = snc Y := by
    rw [List.getElem?_eq_getElem h4] at h2
    rw [← Option.some.inj h2]; exact List.set_getElem_self h4
  rw [e2]
end Go.Proofs.YtcbpppdmkhpkkaaGreat
/- What the calls of a book answer, and what they make of it: in plain words, for the program and for the document alike. -/
namespace Go.Proofs.YtcbpppdmkhpkkaaGreat
open Go.RowKit

/-- Open: an error's number; what is answered; the last Id; the sessions. -/
def openC (last n life : Nat) : Nat := if 1 ≤ life ∧ life ≤ 1099511627776 then (if n = 16 ∨ last = 18446744073709551615 then 14 else 0) else 63
def openR (last n life : Nat) : Nat := if openC last n life = 0 then last + 1 else 0
def openT (last n life : Nat) : Nat := if openC last n life = 0 then last + 1 else last
def openS (X : List Sn) (last now life : Nat) : List Sn := if openC last X.length life = 0 then X ++ [⟨last + 1, sumU now life, life⟩] else X
/-- Renew. -/
def renewC (X : List Sn) (id now : Nat) : Nat := if atS X id < X.length then (if (X.getD (atS X id) default).ends ≤ now then 15 else 0) else 11
def renewL (X : List Sn) (id now : Nat) : List Sn := if renewC X id now = 0 then renewS X (atS X id) now else X
/-- Close. -/
def closeC (X : List Sn) (id : Nat) : Nat := if atS X id < X.length then 0 else 11
def closeL (X : List Sn) (id : Nat) : List Sn := if atS X id < X.length then closeS X (atS X id) else X

theorem openC_ok {last n life : Nat} (h : openC last n life = 0) : 1 ≤ life ∧ life ≤ 1099511627776 ∧ n ≠ 16 ∧ last ≠ 18446744073709551615 := by
  unfold openC at h
  split at h
  · rename_i h1
    split at h
    · omega
    · rename_i h2
      exact ⟨h1.1, h1.2, fun e => h2 (.inl e), fun e => h2 (.inr e)⟩
  · omega
theorem openS_srt {X : List Sn} {last now life : Nat} (h : SrtS last X) : SrtS (openT last X.length life) (openS X last now life) := by
  unfold openT openS
  by_cases hc : openC last X.length life = 0
  · rw [if_pos hc, if_pos hc]
    exact (h.more (by omega)).push _ (fun x hx => by have := (h.from1 x hx).2; show x.id < last + 1; omega) (by show 0 < last + 1; omega) (Nat.le_refl _)
  · rw [if_neg hc, if_neg hc]; exact h
theorem renewL_srt {X : List Sn} {last id now : Nat} (h : SrtS last X) : SrtS last (renewL X id now) := by
  unfold renewL
  by_cases hc : renewC X id now = 0
  · rw [if_pos hc]
    have hin : atS X id < X.length := by
      unfold renewC at hc
      by_cases h1 : atS X id < X.length
      · exact h1
      · rw [if_neg h1] at hc; omega
    exact h.ends _ _ hin
  · rw [if_neg hc]; exact h
theorem renewL_len {X : List Sn} {id now : Nat} : (renewL X id now).length = X.length := by
  unfold renewL renewS; split <;> simp
theorem closeL_srt {X : List Sn} {last id : Nat} (h : SrtS last X) : SrtS last (closeL X id) := by
  unfold closeL; split
  · exact h.sub (closeS_sub _ _)
  · exact h
theorem fits_push {last now life : Nat} (hlife : life ≤ 1099511627776) (hl : last + 1 < 18446744073709551616) : (⟨last + 1, sumU now life, life⟩ : Sn).fits := ⟨hl, sumU_lt _ _, by show life < _; omega⟩

/-! Cells of a block that a run of stores turns. -/
theorem Whole.puts {g : Nat} {t : TypeId} : ∀ (vs : List Value) (o : Nat) {w : World} {cs : List Value}, Whole w g t cs.toArray → o + vs.length ≤ cs.length → Whole (w.setCells g o vs) g t (cs.take o ++ vs ++ cs.drop (o + vs.length)).toArray ∧ Frm [g] w (w.setCells g o vs)
  | [], o, w, cs, h, _ => by
    refine ⟨?_, Frm.refl _ _⟩
    have e : cs.take o ++ [] ++ cs.drop (o + ([] : List Value).length) = cs := by simp
    rw [e]; exact h
  | v :: vs, o, w, cs, h, hl => by
    have h1 := h.put o v
    rw [List.setIfInBounds_toArray] at h1
    have hlc : o < cs.length := by simp at hl; omega
    obtain ⟨h2, h3⟩ := Whole.puts vs (o + 1) h1 (by simp at hl ⊢; omega)
    refine ⟨?_, ((Frm.refl [g] w).setCell (p := ⟨g, o, none⟩) (.inl (by simp)) v).trans h3 (fun x hx => hx) (fun x hx => .inl hx)⟩
    have e : (cs.set o v).take (o + 1) ++ vs ++ (cs.set o v).drop (o + 1 + vs.length) = cs.take o ++ (v :: vs) ++ cs.drop (o + (v :: vs).length) := by
      rw [List.take_succ_eq_append_getElem (by simpa using hlc), List.take_set_of_le (Nat.le_refl _), List.getElem_set_self, List.drop_set_of_lt (by omega)]
      simp [Nat.add_assoc, Nat.add_comm 1]
    rw [← e]
    exact h2
end Go.Proofs.YtcbpppdmkhpkkaaGreat
/- The document's book of sessions in memory; contracts of at, Live, SameSessions. (For stage 7.) -/
namespace Go.Proofs.YtcbpppdmkhpkkaaGreat
open Go.RowKit

/-- The document's book at p: the last Id, the sessions X; its row lies outside p and the blocks F. -/
structure Rb (w : World) (B p : Nat) (F : List Nat) (a : Option Addr) (cap last : Nat) (X : List Sn) : Prop where
  book : Whole w p 33 #[.int .u64 (last : Nat), .slice a X.length cap]
  row : SOwn w B 142 (p :: F) a cap X
  hp : B ≤ p
  out : p ∉ F
  few : X.length ≤ 16
  lt : last < 18446744073709551616
def atSI (X : List Sn) (id : Nat) : Int := if atS X id < X.length then ((atS X id : Nat) : Int) else -1

/-- Is a session there, in time? -/
def liveS (X : List Sn) (id now : Nat) : Bool := decide (atS X id < X.length) && decide (now < (X.getD (atS X id) default).ends)

end Go.Proofs.YtcbpppdmkhpkkaaGreat
/- Contracts of the program's small functions over sessions: over, end, lasts, the comparison, sessions, find. -/
namespace Go.Proofs.YtcbpppdmkhpkkaaGreat
open Go.RowKit

set_option maxHeartbeats 1000000 in
theorem over_any {w : World} (s : Sn) (now : Nat) :
    Calls Tryz.prog 116 #[s.val, .int .u64 (now : Nat)] w fun e w' => e = .returned (.bool (decide (s.ends ≤ now))) ∧ Frm [] w w' := by
  obtain ⟨i, en, li⟩ := s
  unfold Sn.val
  by_cases h : en ≤ now
  · rw [show decide ((⟨i, en, li⟩ : Sn).ends ≤ now) = true from decide_eq_true h]
    go_enter Tryz.func116, Tryz.ntmps116
    go_wp2
    go_ret
    exact ⟨rfl, (Frm.refl [] w).alloc _⟩
  · rw [show decide ((⟨i, en, li⟩ : Sn).ends ≤ now) = false from decide_eq_false h]
    go_enter Tryz.func116, Tryz.ntmps116
    go_wp2
    go_ret
    exact ⟨rfl, (Frm.refl [] w).alloc _⟩

set_option maxHeartbeats 1000000 in
theorem bkend_any {w : World} (a b : Nat) (ha : a < 18446744073709551616) :
    Calls Tryz.prog 98 #[.int .u64 (a : Nat), .int .u64 (b : Nat)] w fun e w' => e = .returned (.int .u64 (sumU a b : Nat)) ∧ w = w' := by
  obtain ⟨r, hr⟩ : ∃ r, r = 18446744073709551615 - a := ⟨_, rfl⟩
  have hr0 : (18446744073709551615 - (a : Int)) % 18446744073709551616 = (r : Int) := by omega
  have hrw : IntKind.u64.wrap (18446744073709551615 - (a : Int)) = (r : Int) := by rw [← hr0]; simp [IntKind.wrap, IntKind.bits, IntKind.signed]
  obtain ⟨m, hm⟩ : ∃ m, m = min b r := ⟨_, rfl⟩
  have hmin : min (b : Int) (r : Int) = (m : Int) := by omega
  obtain ⟨s, hs⟩ : ∃ s, s = sumU a b := ⟨_, rfl⟩
  have hs2 : a + m = s := by rw [hs]; unfold sumU; split <;> omega
  have hs3 : s < 18446744073709551616 := by rw [hs]; exact sumU_lt _ _
  have hw0 : ((a : Int) + (m : Int)) % 18446744073709551616 = (s : Int) := by omega
  have hw : IntKind.u64.wrap ((a : Int) + (m : Int)) = (s : Int) := by rw [← hw0]; simp [IntKind.wrap, IntKind.bits, IntKind.signed]
  rw [← hs]
  by_cases hbr : (b : Int) ≤ (r : Int)
  · have hbr2 : ¬ (r : Int) < (b : Int) := by omega
    obtain rfl : m = b := by omega
    clear hs hs2 hs3 hm hr ha
    go_enter Tryz.func98, Tryz.ntmps98
    go_wp2
    go_ret
    exact ⟨rfl, rfl⟩
  · have hbr2 : (r : Int) < (b : Int) := by omega
    obtain rfl : m = r := by omega
    clear hs hs2 hs3 hm hr ha
    go_enter Tryz.func98, Tryz.ntmps98
    go_wp2
    go_ret
    exact ⟨rfl, rfl⟩

def lastsS (life : Nat) : Prop := 1 ≤ life ∧ life ≤ 1099511627776
instance (life : Nat) : Decidable (lastsS life) := by unfold lastsS; infer_instance
set_option maxHeartbeats 1000000 in
theorem lasts_any {w : World} (life : Nat) :
    Calls Tryz.prog 97 #[.int .u64 (life : Nat)] w fun e w' => e = .returned (.bool (decide (lastsS life))) ∧ w = w' := by
  unfold lastsS
  by_cases h1 : 1 ≤ life
  · by_cases h2 : life ≤ 1099511627776
    · rw [show decide (1 ≤ life ∧ life ≤ 1099511627776) = true from decide_eq_true ⟨h1, h2⟩]
      have h3 : decide ((1 : Int) ≤ (life : Int)) = true := decide_eq_true (by omega)
      have h4 : decide ((life : Int) ≤ 1099511627776) = true := decide_eq_true (by omega)
      go_enter Tryz.func97, Tryz.ntmps97
      go_wp2
      go_ret
      exact ⟨rfl, rfl⟩
    · rw [show decide (1 ≤ life ∧ life ≤ 1099511627776) = false from decide_eq_false (fun h => h2 h.2)]
      have h3 : decide ((1 : Int) ≤ (life : Int)) = true := decide_eq_true (by omega)
      have h4 : decide ((life : Int) ≤ 1099511627776) = false := decide_eq_false (by omega)
      go_enter Tryz.func97, Tryz.ntmps97
      go_wp2
      go_ret
      exact ⟨rfl, rfl⟩
  · rw [show decide (1 ≤ life ∧ life ≤ 1099511627776) = false from decide_eq_false (fun h => h1 h.1)]
    have h3 : decide ((1 : Int) ≤ (life : Int)) = false := decide_eq_false (by omega)
    go_enter Tryz.func97, Tryz.ntmps97
    go_wp2
    go_ret
    exact ⟨rfl, rfl⟩

theorem isNaN_any {w : World} (a : Nat) : Calls Tryz.prog 156 #[.int .u64 (a : Nat)] w fun e w' => e = .returned (.bool false) ∧ w = w' := by
  go_enter Tryz.func156, Tryz.ntmps156
  go_wp2
  go_ret
  exact ⟨rfl, rfl⟩
def cmpN (a b : Nat) : Int := if a < b then -1 else if b < a then 1 else 0
set_option maxHeartbeats 1000000 in
theorem cmpU_any {w : World} (a b : Nat) : Calls Tryz.prog 144 #[.int .u64 (a : Nat), .int .u64 (b : Nat)] w fun e w' => e = .returned (.int .i64 (cmpN a b)) ∧ w = w' := by
  have h1 := Lib.hid (fun w => isNaN_any (w := w) a)
  have h2 := Lib.hid (fun w => isNaN_any (w := w) b)
  unfold cmpN
  by_cases ha : a < b
  · rw [if_pos ha]
    go_enter Tryz.func144, Tryz.ntmps144
    go_wp2_with ((first | (with_reducible refine (h1.out _).mono ?_) | (with_reducible refine (h2.out _).mono ?_)); rintro e w' ⟨rfl, rfl⟩)
    go_ret
    exact ⟨rfl, rfl⟩
  · rw [if_neg ha]
    by_cases hb : b < a
    · rw [if_pos hb]
      go_enter Tryz.func144, Tryz.ntmps144
      go_wp2_with ((first | (with_reducible refine (h1.out _).mono ?_) | (with_reducible refine (h2.out _).mono ?_)); rintro e w' ⟨rfl, rfl⟩)
      go_ret
      exact ⟨rfl, rfl⟩
    · rw [if_neg hb]
      go_enter Tryz.func144, Tryz.ntmps144
      go_wp2_with ((first | (with_reducible refine (h1.out _).mono ?_) | (with_reducible refine (h2.out _).mono ?_)); rintro e w' ⟨rfl, rfl⟩)
      go_ret
      exact ⟨rfl, rfl⟩
set_option maxHeartbeats 1000000 in
theorem findf_any {w : World} (s : Sn) (id : Nat) : Calls Tryz.prog 143 #[s.val, .int .u64 (id : Nat)] w fun e w' => e = .returned (.int .i64 (cmpN s.id id)) ∧ Frm [] w w' := by
  obtain ⟨i, en, li⟩ := s
  unfold Sn.val
  have h1 := Lib.hid (fun w => cmpU_any (w := w) i id)
  show Calls _ _ _ _ fun e w' => e = .returned (.int .i64 (cmpN i id)) ∧ _
  generalize cmpN i id = c at h1 ⊢
  go_enter Tryz.func143, Tryz.ntmps143
  go_wp2_with ((with_reducible refine (h1.out _).mono ?_); rintro e w' ⟨rfl, rfl⟩)
  go_ret
  exact ⟨rfl, (Frm.refl [] w).alloc _⟩

/-- A slice of the book's array. -/
theorem run_row (w : World) (p n : Nat) (hn : n ≤ 16) : (Instr.sliceAt 168 (.pointer (some ⟨p, 2, none⟩)) none (some (.int .i64 (n : Nat))) none).run Tryz.prog w = .ok (.slice (some ⟨p, 2, none⟩) n 16) w := by
  have he : Tryz.prog.elem 168 = 142 := by kernel_rfl
  have hl : Tryz.prog.arrayLen 168 = 16 := by kernel_rfl
  have hz : ∀ w, (Go.sizeOf 142).run Tryz.prog w = .ok 3 w := fun _ => by kernel_rfl
  have ht : Tryz.prog.underlying 168 = some (.array (Tryz.prog.arrayLen 168) (Tryz.prog.elem 168)) := by kernel_rfl
  rw [run_sliceAt_array_h w _ _ ht .i64 _ (by omega) (by omega), he, hz, hl]
  simp [Result.andThen, slicedAt, Addr.add]

set_option maxHeartbeats 1000000 in
theorem sessions_any {w : World} {B p last : Nat} {X Y : List Sn} (h : Bk w B p 170 last X Y) :
    Calls Tryz.prog 92 #[.pointer (some ⟨p, 0, none⟩)] w fun e w' => e = .returned (.slice (some ⟨p, 2, none⟩) X.length 16) ∧ Frm [] w w' := by
  have c1 := h.c1
  have hn := h.few
  have hrow := fun w => run_row w p X.length hn
  generalize X.length = n at c1 hn hrow ⊢
  clear h
  go_enter Tryz.func92, Tryz.ntmps92
  go_wp2
  go_region
  go_wp2
  go_ret
  exact ⟨rfl, (Frm.refl [] w).drewN _⟩
end Go.Proofs.YtcbpppdmkhpkkaaGreat
/- Contracts of slices.BinarySearchFunc over sessions, of find and Live. -/
namespace Go.Proofs.YtcbpppdmkhpkkaaGreat
open Go.RowKit

theorem cmpN_lt (a b : Nat) : decide (cmpN a b < 0) = decide (a < b) := by
  unfold cmpN
  by_cases h : a < b
  · simp [h]
  · rw [if_neg h]; split <;> simp [h]
theorem cmpN_eq (a b : Nat) : (cmpN a b == 0) = decide (a = b) := by
  unfold cmpN
  by_cases h : a < b
  · rw [if_pos h, decide_eq_false (by omega)]; rfl
  · rw [if_neg h]
    by_cases h2 : b < a
    · rw [if_pos h2, decide_eq_false (by omega)]; rfl
    · rw [if_neg h2, decide_eq_true (by omega)]; rfl
/-- What a search for an Id answers: whether it is there, and then where. -/
def FindsS (X : List Sn) (id : Nat) (v : Value) : Prop := ∃ i : Nat, v = .tuple #[.int .i64 (i : Nat), .bool (decide (atS X id < X.length))] ∧ (atS X id < X.length → i = atS X id)
theorem finds_some {X : List Sn} {id : Nat} (h : atS X id < X.length) {v : Value} (hv : FindsS X id v) : v = .tuple #[.int .i64 (atS X id : Nat), .bool true] := by
  obtain ⟨i, rfl, hi⟩ := hv
  rw [decide_eq_true h, hi h]
theorem finds_none {X : List Sn} {id : Nat} (h : ¬ atS X id < X.length) {v : Value} (hv : FindsS X id v) : ∃ i : Nat, v = .tuple #[.int .i64 (i : Nat), .bool false] := by
  obtain ⟨i, rfl, hi⟩ := hv
  rw [decide_eq_false h]; exact ⟨i, rfl⟩

set_option maxRecDepth 100000 in
set_option maxHeartbeats 2000000 in
theorem bkbsearch_any {w : World} {last n cap : Nat} {a : Option Addr} {X : List Sn} (id : Nat) (h : SL w [] a X) (hs : SrtS last X) (hn : n = X.length) (hn16 : n ≤ 16) :
    Calls Tryz.prog 142 #[.slice a n cap, .int .u64 (id : Nat), .func (.func 143) #[] #[]] w
      fun e w' => ∃ v, e = .returned v ∧ FindsS X id v ∧ Frm [] w w' := by
  have HH := Lib.hid h; clear h
  have HS := Lib.hid hs; clear hs
  have HN := Lib.hid hn; clear hn
  go_enter Tryz.func142, Tryz.ntmps142
  go_wp2
  go_loopw [9, 10] (fun s5 s6 wr => ∃ lo hi : Nat, s5 = .int .i64 lo ∧ s6 = .int .i64 hi ∧ lo ≤ hi ∧ hi ≤ n ∧ Hid (∀ t, t < lo → (X.getD t default).id < id) ∧ Hid (∀ t, hi ≤ t → t < n → id ≤ (X.getD t default).id) ∧ Hid (Frm [] w wr)) (fun s5 s6 _ => ((intOf s6).toNat - (intOf s5).toNat))
  case atStart => exact ⟨0, n, rfl, rfl, Nat.zero_le _, Nat.le_refl _, Lib.hid (fun t ht => absurd ht (Nat.not_lt_zero _)), Lib.hid (fun t h1 h2 => by omega), Lib.hid (Frm.refl _ _)⟩
  case round =>
    obtain ⟨lo, hi, rfl, rfl, hlh, hin, HA, HB, HF⟩ := hrel
    by_cases hlt : lo < hi
    · obtain ⟨m, hm⟩ : ∃ m, m = (lo + hi) / 2 := ⟨_, rfl⟩
      have hm1 : lo ≤ m := by omega
      have hm2 : m < hi := by omega
      have hmi : ((lo : Int) + (hi : Int)) / 2 = (m : Int) := by omega
      have hsl := HH.out.keep (F' := []) HF.out (by simp) (by simp)
      obtain ⟨b, off, rfl, p0, p1, p2, _⟩ := hsl.at (i := m) (by have := HN.out; omega)
      obtain ⟨x, hx⟩ : ∃ x, x = X.getD m default := ⟨_, rfl⟩
      rw [← hx] at p0 p1 p2
      have HX := Lib.hid hx; clear hx hsl
      have hC := Lib.hid (fun w => findf_any (w := w) x id)
      have hc2 : decide (cmpN x.id id < 0) = decide (x.id < id) := cmpN_lt _ _
      obtain ⟨c, hc⟩ : ∃ c, c = cmpN x.id id := ⟨_, rfl⟩
      rw [← hc] at hC hc2
      clear hc
      unfold Sn.val at hC
      by_cases hkl : x.id < id
      · rw [decide_eq_true hkl] at hc2
        have HKL := Lib.hid hkl
        clear hkl hm
        go_wp2_with ((with_reducible refine (hC.out _).mono ?_); rintro e w' ⟨rfl, hf'⟩; have HF2 := Lib.hid (HF.out.trans hf' (U := []) (by simp) (by simp)); clear hf')
        go_roundw
        case rel => exact ⟨m + 1, hi, by go_num, rfl, by omega, hin, Lib.hid (fun t h1 => by
            rcases Nat.lt_or_ge t m with h3 | h3
            · have := HS.out.lt h3 (by rw [← HN.out]; omega)
              have h4 := HKL.out
              rw [HX.out] at h4
              omega
            · have : t = m := by omega
              subst this; rw [← HX.out]; exact HKL.out), HB, HF2⟩
        case measure => simp [intOf]; omega
      · rw [decide_eq_false hkl] at hc2
        have HKL := Lib.hid hkl
        clear hkl hm
        go_wp2_with ((with_reducible refine (hC.out _).mono ?_); rintro e w' ⟨rfl, hf'⟩; have HF2 := Lib.hid (HF.out.trans hf' (U := []) (by simp) (by simp)); clear hf')
        go_roundw
        case rel => exact ⟨lo, m, rfl, rfl, by omega, by omega, HA, Lib.hid (fun t h1 h2 => by
            have h4 := HKL.out
            rw [HX.out] at h4
            rcases Nat.lt_or_ge m t with h3 | h3
            · have := HS.out.lt h3 (by rw [← HN.out]; exact h2)
              omega
            · have : t = m := by omega
              subst this; omega), HF2⟩
        case measure => simp [intOf]; omega
    · obtain rfl : hi = lo := by omega
      by_cases hlt2 : hi < n
      · have hsl := HH.out.keep (F' := []) HF.out (by simp) (by simp)
        obtain ⟨b, off, rfl, p0, p1, p2, _⟩ := hsl.at (i := hi) (by have := HN.out; omega)
        obtain ⟨x, hx⟩ : ∃ x, x = X.getD hi default := ⟨_, rfl⟩
        rw [← hx] at p0 p1 p2
        have hfin : FindsS X id (.tuple #[.int .i64 (hi : Nat), .bool (decide (x.id = id))]) := by
          by_cases he : x.id = id
          · have h1 : atS X id = hi := atS_eq (by rw [← HN.out]; exact hlt2) (by rw [← hx]; exact he) (fun t ht => Nat.ne_of_lt (HA.out t ht))
            refine ⟨hi, ?_, fun _ => h1.symm⟩
            rw [h1, decide_eq_true he, decide_eq_true (by rw [← HN.out]; exact hlt2)]
          · have h1 : ¬ atS X id < X.length := atS_none (fun t ht => by
              rcases Nat.lt_trichotomy t hi with h2 | h2 | h2
              · exact Nat.ne_of_lt (HA.out t h2)
              · subst h2; rw [← hx]; exact he
              · have h3 := HS.out.lt h2 ht
                have h4 := HB.out hi (Nat.le_refl _) hlt2
                omega)
            exact ⟨hi, by rw [decide_eq_false he, decide_eq_false h1], fun h => absurd h h1⟩
        have HX := Lib.hid hx; clear hx hsl
        have HFIN := Lib.hid hfin
        have hC := Lib.hid (fun w => findf_any (w := w) x id)
        have hc2 : (cmpN x.id id == 0) = decide (x.id = id) := cmpN_eq _ _
        obtain ⟨c, hc⟩ : ∃ c, c = cmpN x.id id := ⟨_, rfl⟩
        obtain ⟨d, hd⟩ : ∃ d, d = decide (x.id = id) := ⟨_, rfl⟩
        rw [← hc] at hC hc2
        rw [← hd] at hc2 HFIN
        clear hc hd hfin HA HB
        unfold Sn.val at hC
        have hlt3 : (hi : Int) < (n : Int) := by omega
        go_wp2_with ((with_reducible refine (hC.out _).mono ?_); rintro e w' ⟨rfl, hf'⟩; have HF2 := Lib.hid (HF.out.trans hf' (U := []) (by simp) (by simp)); clear hf')
        go_ret2
        exact ⟨_, rfl, HFIN.out, HF2.out⟩
      · have hfin : FindsS X id (.tuple #[.int .i64 (hi : Nat), .bool false]) := by
          have h1 : ¬ atS X id < X.length := atS_none (fun t ht => Nat.ne_of_lt (HA.out t (by have := HN.out; omega)))
          exact ⟨hi, by rw [decide_eq_false h1], fun h => absurd h h1⟩
        have HFIN := Lib.hid hfin
        clear hfin HA HB
        go_wp2
        go_ret2
        exact ⟨_, rfl, HFIN.out, HF.out⟩

set_option maxRecDepth 100000 in
set_option maxHeartbeats 1000000 in
theorem bkfind_any {w : World} {B p last : Nat} {X Y : List Sn} (id : Nat) (h : Bk w B p 170 last X Y) :
    Calls Tryz.prog 115 #[.pointer (some ⟨p, 0, none⟩), .int .u64 (id : Nat)] w fun e w' => ∃ v, e = .returned v ∧ FindsS X id v ∧ Frm [] w w' := by
  have hS := Lib.hid (sessions_any h)
  obtain ⟨n, hn⟩ : ∃ n, n = X.length := ⟨_, rfl⟩
  rw [← hn] at hS
  have HB := Lib.hid (fun (z : World) (hz : Frm [] w z) => bkbsearch_any (w := z) (cap := 16) id ((h.keep hz (by simp)).sl (F := []) (by simp)) h.srt hn (by have := h.few; omega))
  clear h hn
  go_enter Tryz.func115, Tryz.ntmps115
  go_wp2_with fail
  (with_reducible refine hS.out.mono ?_)
  rintro e w1 ⟨rfl, hf1⟩
  have HF1 := Lib.hid hf1; clear hf1
  go_wp2_with fail
  (with_reducible refine (HB.out _ HF1.out).mono ?_)
  rintro e w2 ⟨v, rfl, hv, hf2⟩
  obtain ⟨i, rfl, hi⟩ := hv
  have HF2 := Lib.hid (HF1.out.trans hf2 (U := []) (by simp) (by simp))
  have HV : Hid (FindsS X id (.tuple #[.int .i64 (i : Nat), .bool (decide (atS X id < X.length))])) := Lib.hid ⟨i, rfl, hi⟩
  obtain ⟨d, hd⟩ : ∃ d, d = decide (atS X id < X.length) := ⟨_, rfl⟩
  rw [← hd] at HV ⊢
  clear hi hf2 hd
  go_wp2
  go_ret2
  exact ⟨_, rfl, HV.out, HF2.out⟩

set_option maxRecDepth 100000 in
set_option maxHeartbeats 1000000 in
theorem live_any {w : World} {B p last : Nat} {X Y : List Sn} (id now : Nat) (h : Bk w B p 170 last X Y) :
    Calls Tryz.prog 78 #[.pointer (some ⟨p, 0, none⟩), .int .u64 (id : Nat), .int .u64 (now : Nat)] w fun e w' => e = .returned (.bool (liveS X id now)) ∧ Frm [] w w' := by
  have hFI := Lib.hid (bkfind_any id h)
  unfold liveS
  by_cases hin : atS X id < X.length
  · rw [decide_eq_true hin, Bool.true_and]
    obtain ⟨x, hx⟩ : ∃ x, x = X.getD (atS X id) default := ⟨_, rfl⟩
    have HAT := Lib.hid (fun (z : World) (hz : Frm [] w z) => (h.keep hz (by simp)).at hin)
    rw [← hx] at HAT ⊢
    have hi16 : atS X id < 16 := by have := h.few; omega
    have HIN := Lib.hid hin
    have hov := Lib.hid (fun w => over_any (w := w) x now)
    have hd : decide (now < x.ends) = !decide (x.ends ≤ now) := by
      by_cases h1 : x.ends ≤ now
      · rw [decide_eq_true h1, decide_eq_false (by omega)]; rfl
      · rw [decide_eq_false h1, decide_eq_true (by omega)]; rfl
    rw [hd]
    obtain ⟨o, ho⟩ : ∃ o, o = decide (x.ends ≤ now) := ⟨_, rfl⟩
    rw [← ho] at hov ⊢
    unfold Sn.val at hov
    clear h hin hx hd ho
    go_enter Tryz.func78, Tryz.ntmps78
    go_wp2_with fail
    (with_reducible refine hFI.out.mono ?_)
    rintro e w1 ⟨v, rfl, hv, hf1⟩
    obtain rfl := finds_some HIN.out hv
    obtain ⟨q, hq⟩ : ∃ q, q = atS X id := ⟨_, rfl⟩
    rw [← hq] at HAT hi16 ⊢
    obtain ⟨p0, p1, p2, _⟩ := HAT.out _ hf1
    have HF1 := Lib.hid hf1
    clear hf1 hv hq HAT hFI HIN
    go_wp2_with fail
    (with_reducible refine (hov.out _).mono ?_)
    rintro e w2 ⟨rfl, hf2⟩
    have HF2 := Lib.hid (HF1.out.trans hf2 (U := []) (by simp) (by simp))
    clear hf2
    go_wp2
    go_ret
    exact ⟨rfl, HF2.out⟩
  · rw [decide_eq_false hin, Bool.false_and]
    have HIN := Lib.hid hin
    clear h hin
    go_enter Tryz.func78, Tryz.ntmps78
    go_wp2_with fail
    (with_reducible refine hFI.out.mono ?_)
    rintro e w1 ⟨v, rfl, hv, hf1⟩
    obtain ⟨i, rfl⟩ := finds_none HIN.out hv
    have HF1 := Lib.hid hf1
    clear hf1 hv
    go_wp2
    go_ret
    exact ⟨rfl, HF1.out⟩
end Go.Proofs.YtcbpppdmkhpkkaaGreat
/- Contracts of live, expired. -/
namespace Go.Proofs.YtcbpppdmkhpkkaaGreat
open Go.RowKit
set_option maxHeartbeats 1000000 in
theorem mlive_any {w : World} {B p bp last now : Nat} {X Y : List Sn} (id : Nat) (c0 : w.cell? ⟨p, 0, none⟩ = some (.int .u64 (now : Nat))) (c2 : w.cell? ⟨p, 2, none⟩ = some (.pointer (some ⟨bp, 0, none⟩))) (hb : Bk w B bp 170 last X Y) :
    Calls Tryz.prog 47 #[.pointer (some ⟨p, 0, none⟩), .int .u64 (id : Nat)] w fun e w' => e = .returned (.bool (liveS X id now)) ∧ Frm [] w w' := by
  have HL := Lib.hid (fun z (hz : Frm [] w z) => live_any id now (hb.keep hz (by simp)))
  clear hb
  go_enter Tryz.func47, Tryz.ntmps47
  go_wp2
  go_region_with (go_at_call 78; refine (HL.out _ (by repeat (first | exact Frm.refl _ _ | apply Frm.drew | apply Frm.drewN))).mono ?_; rintro e w1 ⟨rfl, hf1⟩)
  all_goals (go_wp2; go_ret; exact ⟨rfl, hf1.undrew⟩)

/-- Is it a session's number, but none that is live? -/
def expB (X : List Sn) (id now : Nat) : Bool := decide (id ≠ 0) && !liveS X id now
set_option maxHeartbeats 1000000 in
theorem mexpired_any {w : World} {B p bp last now : Nat} {X Y : List Sn} (id : Nat) (c0 : w.cell? ⟨p, 0, none⟩ = some (.int .u64 (now : Nat))) (c2 : w.cell? ⟨p, 2, none⟩ = some (.pointer (some ⟨bp, 0, none⟩))) (hb : Bk w B bp 170 last X Y) :
    Calls Tryz.prog 95 #[.pointer (some ⟨p, 0, none⟩), .int .u64 (id : Nat)] w fun e w' => e = .returned (.bool (expB X id now)) ∧ Frm [] w w' := by
  have HL := Lib.hid (mlive_any id c0 c2 hb)
  clear hb
  unfold expB
  by_cases h : id = 0
  · rw [show decide (id ≠ 0) = false by simp [h], Bool.false_and]
    subst h
    go_enter Tryz.func95, Tryz.ntmps95
    go_wp2
    go_ret
    exact ⟨rfl, Frm.refl _ _⟩
  · rw [show decide (id ≠ 0) = true by simp [h], Bool.true_and]
    have hne : ((id : Int) != 0) = true := by rw [bne_iff_ne]; omega
    obtain ⟨b, hb⟩ : ∃ b, b = liveS X id now := ⟨_, rfl⟩
    rw [← hb] at HL ⊢
    clear hb
    go_enter Tryz.func95, Tryz.ntmps95
    go_wp2_with fail
    (with_reducible refine HL.out.mono ?_)
    rintro e w1 ⟨rfl, hf1⟩
    go_wp2
    go_ret
    exact ⟨rfl, hf1⟩
end Go.Proofs.YtcbpppdmkhpkkaaGreat
/- The keeper's state and its commands in plain words: what a command answers and makes of a state. -/
namespace Go.Proofs.YtcbpppdmkhpkkaaGreat
open Go.RowKit
/-- Is it a session's number, but none that is live? -/
def expS (S : MS) (id : Nat) : Bool := expB S.ses id S.now
def dropAll : List Nat → List Nd → List Nd
  | [], L => L
  | g :: G, L => dropAll G (keepD g L)
def tickT (now n : Nat) : Nat := min (now + n) 1099511627776
/-- A command's error. -/
def doE (S : MS) (c : MC) : Nat :=
  if c.kind = 1 then (if expS S c.ses = true then 15 else putNC S.nodes c.key c.val c.want)
  else if c.kind = 2 then delN S.nodes c.key c.want
  else if c.kind = 3 then openC S.last S.ses.length c.ticks
  else if c.kind = 4 then (if expS S c.ses = true then 15 else renewC S.ses c.ses S.now)
  else if c.kind = 5 then closeC S.ses c.ses
  else if c.kind = 6 then 0
  else if c.kind = 7 then 0
  else 16
/-- A command's number. -/
def doN (S : MS) (c : MC) : Nat :=
  if c.kind = 1 then (if expS S c.ses = true then 0 else putNR S.nodes c.key c.val c.want)
  else if c.kind = 3 then openR S.last S.ses.length c.ticks
  else if c.kind = 6 then tickT S.now c.ticks
  else 0
/-- The sessions that went. -/
def doG (S : MS) (c : MC) : List Nat := if c.kind = 6 then goneS (tickT S.now c.ticks) S.ses else []
/-- The state behind a command. -/
def doS (S : MS) (c : MC) : MS :=
  if c.kind = 1 then (if expS S c.ses = true then S else { S with nodes := putNL S.nodes c.key c.val c.want c.ses })
  else if c.kind = 2 then { S with nodes := delL S.nodes c.key c.want }
  else if c.kind = 3 then { S with last := openT S.last S.ses.length c.ticks, ses := openS S.ses S.last S.now c.ticks }
  else if c.kind = 4 then (if expS S c.ses = true then S else { S with ses := renewL S.ses c.ses S.now })
  else if c.kind = 5 then { S with ses := closeL S.ses c.ses, nodes := if closeC S.ses c.ses = 0 then keepD c.ses S.nodes else S.nodes }
  else if c.kind = 6 then { S with now := tickT S.now c.ticks, ses := leftS (tickT S.now c.ticks) S.ses, nodes := dropAll (goneS (tickT S.now c.ticks) S.ses) S.nodes }
  else S
/-- A state that may be. -/
structure MOk (S : MS) : Prop where
  now : S.now ≤ 1099511627776
  good : Good S.nodes
  few : S.nodes.length ≤ 256
  ver : ∀ d ∈ S.nodes, d.ver < 18446744073709551616
  own : ∀ d ∈ S.nodes, d.own < 18446744073709551616
  lt : S.last < 18446744073709551616
  right : RightS S.last S.ses
  fits : ∀ x ∈ S.ses, x.fits
/-- Its versions, from 1 to m. -/
def MVer (m : Nat) (S : MS) : Prop := ∀ d ∈ S.nodes, 1 ≤ d.ver ∧ d.ver ≤ m
theorem MOk.first : MOk {} := ⟨by simp, Good.nil, by simp, by simp, by simp, by simp, ⟨by simp, fun i hi => absurd hi (Nat.not_lt_zero _)⟩, by simp⟩
theorem MVer.first (m : Nat) : MVer m {} := fun d hd => by simp at hd
theorem MOk.srt {S : MS} (h : MOk S) : SrtS S.last S.ses := h.right.srt
theorem Good.loads8 {M : List Nd} (h : Good M) (hl : M.length ≤ 256) (hv : ∀ d ∈ M, d.ver ≠ 0) : LoadsP M := by
  refine ⟨hl, fun i hi => ⟨?_, hv _ (by simp [hi]), fun h0 => h.srt.at (by omega) hi⟩⟩
  have := h.lens (M.getD i default) (by simp [hi])
  unfold lenC
  rw [if_neg (by omega), if_neg (by omega)]
theorem MOk.loads {m : Nat} {S : MS} (h : MOk S) (hv : MVer m S) : LoadsP S.nodes := h.good.loads8 h.few (fun d hd => by have := (hv d hd).1; omega)
theorem rightS_of {last : Nat} {X : List Sn} (h : SrtS last X) (hl : X.length ≤ 16) (hlife : ∀ x ∈ X, 1 ≤ x.life ∧ x.life ≤ 1099511627776) : RightS last X := by
  refine ⟨hl, fun i hi => ?_⟩
  have hm : X.getD i default ∈ X := by simp [hi]
  exact ⟨(h.from1 _ hm).1, (h.from1 _ hm).2, (hlife _ hm).1, (hlife _ hm).2, fun h0 => h.lt (by omega) hi⟩
theorem RightS.life {last : Nat} {X : List Sn} (h : RightS last X) : ∀ x ∈ X, 1 ≤ x.life ∧ x.life ≤ 1099511627776 := by
  intro x hx
  obtain ⟨i, hi, rfl⟩ := List.getElem_of_mem hx
  have := h.2 i hi
  rw [← getS hi]
  exact ⟨this.2.2.1, this.2.2.2.1⟩
theorem dropAll_sub : ∀ (G : List Nat) (L : List Nd), (dropAll G L).Sublist L
  | [], _ => List.Sublist.refl _
  | g :: G, L => (dropAll_sub G (keepD g L)).trans List.filter_sublist
theorem Good.sub {L M : List Nd} (h : Good L) (hs : M.Sublist L) : Good M := ⟨h.srt.sublist hs, fun d hd => h.lens d (hs.subset hd)⟩
theorem putNL_mem {L : List Nd} {s : ByteArray} {v : List Nat} {want own m : Nat} (hver : ∀ d ∈ L, 1 ≤ d.ver ∧ d.ver ≤ m) (hm : m < 18446744073709551615) :
    ∀ d ∈ putNL L s v want own, 1 ≤ d.ver ∧ d.ver ≤ m + 1 := by
  intro d hd
  unfold putNL at hd
  by_cases hc : putNC L s v want ≠ 0
  · rw [if_pos hc] at hd
    have := hver d hd; omega
  · rw [if_neg hc] at hd
    have hu : unwC L s want = 0 := by
      unfold putNC at hc
      by_cases h1 : lenC s.size v.length ≠ 0
      · rw [if_pos h1] at hc; exact absurd h1 hc
      · rw [if_neg h1] at hc; omega
    have key : (isN L s = true ∧ (d ∈ L.take (ixN L s) ∨ d.ver = (want + 1) % 18446744073709551616 ∨ d ∈ L.drop (ixN L s + 1))) ∨ (isN L s = false ∧ (d ∈ L.take (ixN L s) ∨ d.ver = 1 ∨ d ∈ L.drop (ixN L s))) := by
      cases his : isN L s
      · right
        rw [his, if_neg (by simp)] at hd
        simp only [List.mem_append, List.mem_cons] at hd
        rcases hd with hd | hd | hd
        · exact ⟨rfl, .inl hd⟩
        · exact ⟨rfl, .inr (.inl (by rw [hd]))⟩
        · exact ⟨rfl, .inr (.inr hd)⟩
      · left
        rw [his, if_pos rfl] at hd
        simp only [List.mem_append, List.mem_cons] at hd
        rcases hd with hd | hd | hd
        · exact ⟨rfl, .inl hd⟩
        · exact ⟨rfl, .inr (.inl (by rw [hd]))⟩
        · exact ⟨rfl, .inr (.inr hd)⟩
    rcases key with ⟨his, hd | hd | hd⟩ | ⟨his, hd | hd | hd⟩
    · have := hver d (List.mem_of_mem_take hd); omega
    · rcases unwC_ok hu with ⟨_, h2, h3⟩ | ⟨h2, _⟩
      · have hix : ixN L s < L.length := by
          unfold isN at his; simp at his; exact his.1
        have := hver (L.getD (ixN L s) default) (by simp [hix])
        rw [h3] at this
        rw [hd, Nat.mod_eq_of_lt (by omega)]; omega
      · rw [his] at h2; cases h2
    · have := hver d (List.mem_of_mem_drop hd); omega
    · have := hver d (List.mem_of_mem_take hd); omega
    · omega
    · have := hver d (List.mem_of_mem_drop hd); omega
theorem putNL_ver {L : List Nd} {s : ByteArray} {v : List Nat} {want own : Nat} (hL : ∀ d ∈ L, d.ver < 18446744073709551616) : ∀ d ∈ putNL L s v want own, d.ver < 18446744073709551616 := by
  intro d hd
  unfold putNL at hd
  split at hd
  · exact hL d hd
  · split at hd
    · simp only [List.mem_append, List.mem_cons] at hd
      rcases hd with hd | rfl | hd
      · exact hL d (List.mem_of_mem_take hd)
      · exact Nat.mod_lt _ (by omega)
      · exact hL d (List.mem_of_mem_drop hd)
    · simp only [List.mem_append, List.mem_cons] at hd
      rcases hd with hd | rfl | hd
      · exact hL d (List.mem_of_mem_take hd)
      · show 1 < _; omega
      · exact hL d (List.mem_of_mem_drop hd)
theorem putNL_own {L : List Nd} {s : ByteArray} {v : List Nat} {want own : Nat} (ho : own < 18446744073709551616) (hL : ∀ d ∈ L, d.own < 18446744073709551616) : ∀ d ∈ putNL L s v want own, d.own < 18446744073709551616 := by
  intro d hd
  unfold putNL at hd
  split at hd
  · exact hL d hd
  · split at hd
    · rename_i his
      have hix : ixN L s < L.length := by
        unfold isN at his; simp at his; exact his.1
      simp only [List.mem_append, List.mem_cons] at hd
      rcases hd with hd | rfl | hd
      · exact hL d (List.mem_of_mem_take hd)
      · exact hL (L.getD (ixN L s) default) (by simp [hix])
      · exact hL d (List.mem_of_mem_drop hd)
    · simp only [List.mem_append, List.mem_cons] at hd
      rcases hd with hd | rfl | hd
      · exact hL d (List.mem_of_mem_take hd)
      · exact ho
      · exact hL d (List.mem_of_mem_drop hd)
theorem putNL_few {L : List Nd} {s : ByteArray} {v : List Nat} {want own : Nat} (h : L.length ≤ 256) : (putNL L s v want own).length ≤ 256 := by
  unfold putNL
  by_cases hc : putNC L s v want ≠ 0
  · rw [if_pos hc]; exact h
  · rw [if_neg hc]
    have hu : unwC L s want = 0 := by
      unfold putNC at hc
      by_cases h1 : lenC s.size v.length ≠ 0
      · rw [if_pos h1] at hc; exact absurd h1 hc
      · rw [if_neg h1] at hc; omega
    have hle := ixN_le L s
    cases his : isN L s
    · rw [if_neg (by simp)]
      rcases unwC_ok hu with ⟨h2, _⟩ | ⟨_, _, h4⟩
      · rw [his] at h2; cases h2
      · simp [List.length_take, List.length_drop]; omega
    · rw [if_pos rfl]
      have hix : ixN L s < L.length := by unfold isN at his; simp at his; exact his.1
      simp [List.length_take, List.length_drop]; omega
theorem delL_sub (L : List Nd) (s : ByteArray) (want : Nat) : (delL L s want).Sublist L := by
  unfold delL
  split
  · have h : (L.drop (ixN L s + 1)).Sublist (L.drop (ixN L s)) := List.drop_sublist_drop_left L (by omega)
    have := List.Sublist.append (List.Sublist.refl (L.take (ixN L s))) h
    rwa [List.take_append_drop] at this
  · exact List.Sublist.refl _
/-- Fewer nodes. -/
theorem MOk.sub {S : MS} {M : List Nd} (h : MOk S) (hs : M.Sublist S.nodes) : MOk { S with nodes := M } :=
  ⟨h.now, h.good.sub hs, Nat.le_trans hs.length_le h.few, fun d hd => h.ver d (hs.subset hd), fun d hd => h.own d (hs.subset hd), h.lt, h.right, h.fits⟩
theorem MOk.sesS {l : Nat} {S : MS} {X : List Sn} (h : MOk S) (hl : l < 18446744073709551616) (hr : RightS l X) (hf : ∀ x ∈ X, x.fits) : MOk { S with last := l, ses := X } := ⟨h.now, h.good, h.few, h.ver, h.own, hl, hr, hf⟩
theorem RightS.sub {last : Nat} {X Y : List Sn} (h : RightS last X) (hs : Y.Sublist X) : RightS last Y :=
  rightS_of (h.srt.sub hs) (Nat.le_trans hs.length_le h.1) (fun x hx => h.life x (hs.subset hx))
/-- What a command leaves is such a state. -/
theorem MOk.does {S : MS} {c : MC} (h : MOk S) (hc : MCOk c) : MOk (doS S c) := by
  have h' := h
  unfold doS
  by_cases k1 : c.kind = 1
  · rw [if_pos k1]
    split
    · exact h'
    · exact ⟨h.now, h.good.put _ _ _ _, putNL_few h.few, putNL_ver h.ver, putNL_own hc.ses h.own, h.lt, h.right, h.fits⟩
  rw [if_neg k1]
  by_cases k2 : c.kind = 2
  · rw [if_pos k2]; exact h'.sub (delL_sub _ _ _)
  rw [if_neg k2]
  by_cases k3 : c.kind = 3
  · rw [if_pos k3]
    have hs := openS_srt (now := S.now) (life := c.ticks) h.srt
    unfold openT openS at hs ⊢
    by_cases ho : openC S.last S.ses.length c.ticks = 0
    · rw [if_pos ho] at hs ⊢
      rw [if_pos ho] at hs ⊢
      obtain ⟨o1, o2, o3, o4⟩ := openC_ok ho
      have hlt := h.lt
      refine h'.sesS (by omega) (rightS_of hs ?_ ?_) ?_
      · have := h.right.1; simp; omega
      · intro x hx
        rcases List.mem_append.1 hx with hx | hx
        · exact h.right.life x hx
        · simp at hx; subst hx; exact ⟨o1, o2⟩
      · intro x hx
        rcases List.mem_append.1 hx with hx | hx
        · exact h.fits x hx
        · simp at hx; subst hx; exact fits_push o2 (by omega)
    · rw [if_neg ho] at hs ⊢
      rw [if_neg ho] at hs ⊢
      exact h'
  rw [if_neg k3]
  by_cases k4 : c.kind = 4
  · rw [if_pos k4]
    split
    · exact h'
    · have hs := renewL_srt (id := c.ses) (now := S.now) h.srt
      have hl := renewL_len (X := S.ses) (id := c.ses) (now := S.now)
      have hmem : ∀ x ∈ renewL S.ses c.ses S.now, x.fits ∧ 1 ≤ x.life ∧ x.life ≤ 1099511627776 := by
        intro x hx
        unfold renewL at hx
        split at hx
        · rename_i h0
          have hin : atS S.ses c.ses < S.ses.length := by
            unfold renewC at h0
            by_cases h1 : atS S.ses c.ses < S.ses.length
            · exact h1
            · rw [if_neg h1] at h0; cases h0
          unfold renewS at hx
          rcases List.mem_or_eq_of_mem_set hx with hx | rfl
          · exact ⟨h.fits x hx, h.right.life x hx⟩
          · have hm : S.ses.getD (atS S.ses c.ses) default ∈ S.ses := by simp [hin]
            have hf := h.fits _ hm
            have hu := sumU_lt S.now (S.ses.getD (atS S.ses c.ses) default).life
            have he := hf.2.1
            have hl2 := h.right.life _ hm
            exact ⟨⟨hf.1, by show max _ _ < _; omega, hf.2.2⟩, hl2.1, hl2.2⟩
        · exact ⟨h.fits x hx, h.right.life x hx⟩
      exact h'.sesS h.lt (rightS_of hs (by rw [hl]; exact h.right.1) fun x hx => (hmem x hx).2) fun x hx => (hmem x hx).1
  rw [if_neg k4]
  by_cases k5 : c.kind = 5
  · rw [if_pos k5]
    have hcs : (closeL S.ses c.ses).Sublist S.ses := by
      unfold closeL; split
      · exact closeS_sub _ _
      · exact List.Sublist.refl _
    have h2 := h'.sesS h.lt (h.right.sub hcs) (fun x hx => h.fits x (hcs.subset hx))
    refine MOk.sub h2 ?_
    split
    · exact List.filter_sublist
    · exact List.Sublist.refl _
  rw [if_neg k5]
  by_cases k6 : c.kind = 6
  · rw [if_pos k6]
    have hcs := leftS_sub (tickT S.now c.ticks) S.ses
    have h2 := h'.sesS h.lt (h.right.sub hcs) (fun x hx => h.fits x (hcs.subset hx))
    have h3 := MOk.sub h2 (dropAll_sub (goneS (tickT S.now c.ticks) S.ses) S.nodes)
    exact ⟨by show tickT _ _ ≤ _; unfold tickT; omega, h3.good, h3.few, h3.ver, h3.own, h3.lt, h3.right, h3.fits⟩
  rw [if_neg k6]
  exact h'
/-- Versions rise one by one. -/
theorem MVer.does {m : Nat} {S : MS} {c : MC} (h : MVer m S) (hm : m < 18446744073709551615) : MVer (m + 1) (doS S c) := by
  have up : ∀ M : List Nd, (∀ d ∈ M, d ∈ S.nodes) → ∀ d ∈ M, 1 ≤ d.ver ∧ d.ver ≤ m + 1 := fun M hM d hd => by have := h d (hM d hd); omega
  unfold doS MVer
  by_cases k1 : c.kind = 1
  · rw [if_pos k1]
    split
    · exact up _ fun d hd => hd
    · exact putNL_mem h hm
  rw [if_neg k1]
  by_cases k2 : c.kind = 2
  · rw [if_pos k2]; exact up _ fun d hd => (delL_sub _ _ _).subset hd
  rw [if_neg k2]
  by_cases k3 : c.kind = 3
  · rw [if_pos k3]; exact up _ fun d hd => hd
  rw [if_neg k3]
  by_cases k4 : c.kind = 4
  · rw [if_pos k4]
    split
    · exact up _ fun d hd => hd
    · exact up _ fun d hd => hd
  rw [if_neg k4]
  by_cases k5 : c.kind = 5
  · rw [if_pos k5]
    refine up _ fun d hd => ?_
    simp only at hd
    split at hd
    · exact (List.mem_filter.1 hd).1
    · exact hd
  rw [if_neg k5]
  by_cases k6 : c.kind = 6
  · rw [if_pos k6]; exact up _ fun d hd => (dropAll_sub _ _).subset hd
  rw [if_neg k6]
  exact up _ fun d hd => hd
/-- What is refused has changed nothing. -/
theorem doS_err {S : MS} {c : MC} (h : doE S c ≠ 0) : doS S c = S := by
  unfold doE at h
  unfold doS
  by_cases k1 : c.kind = 1
  · rw [if_pos k1] at h ⊢
    split at h
    · rename_i he; rw [if_pos he]
    · rename_i he; rw [if_neg he]; unfold putNL; rw [if_pos h]
  rw [if_neg k1] at h ⊢
  by_cases k2 : c.kind = 2
  · rw [if_pos k2] at h ⊢; unfold delL; rw [if_neg h]
  rw [if_neg k2] at h ⊢
  by_cases k3 : c.kind = 3
  · rw [if_pos k3] at h ⊢; unfold openT openS; rw [if_neg h, if_neg h]
  rw [if_neg k3] at h ⊢
  by_cases k4 : c.kind = 4
  · rw [if_pos k4] at h ⊢
    split at h
    · rename_i he; rw [if_pos he]
    · rename_i he; rw [if_neg he]; unfold renewL; rw [if_neg h]
  rw [if_neg k4] at h ⊢
  by_cases k5 : c.kind = 5
  · rw [if_pos k5] at h ⊢
    rw [if_neg h]
    unfold closeC at h
    unfold closeL
    by_cases h1 : atS S.ses c.ses < S.ses.length
    · rw [if_pos h1] at h; exact absurd rfl h
    · rw [if_neg h1]
  rw [if_neg k5] at h ⊢
  by_cases k6 : c.kind = 6
  · rw [if_pos k6] at h; exact absurd rfl h
  rw [if_neg k6]
end Go.Proofs.YtcbpppdmkhpkkaaGreat
/- Contract of the program's Load. -/
namespace Go.Proofs.YtcbpppdmkhpkkaaGreat
open Go.RowKit
set_option maxRecDepth 100000

/-- At the head of Load's loop. -/
structure LdAt (w : World) (p : Nat) (F : List Nat) (M : List Nd) (k : Nat) (a' : Option Addr) (c' : Nat) (L : List Nx) (qs : List Nat) (wr : World) : Prop where
  tree : Whole wr p 152 #[.slice a' k c']
  own : wr.ownsRow w.heap.size 153 1 (.slice a' k c') k (qs.map ptr)
  nat : NdsAt wr L qs
  nds : nds L = M.take k
  ok : NOk wr (blk a' ++ (p :: F)) L
  qp : ∀ q ∈ qs, p < q
  frm : Frm [] w wr
  hp : w.heap.size ≤ p
  out : ∀ x ∈ F, x < w.heap.size
theorem LdAt.k {w : World} {p : Nat} {F : List Nat} {M : List Nd} {k : Nat} {a' : Option Addr} {c' : Nat} {L : List Nx} {qs : List Nat} {wr : World} (h : LdAt w p F M k a' c' L qs wr) : qs.length = k ∧ L.length = k := by
  have h1 := h.own.1
  rw [List.length_map] at h1
  have h2 := h.nat.1
  omega
def LdRel (w : World) (p : Nat) (F : List Nat) (M : List Nd) (u14 : Value) (wr : World) : Prop := ∃ k a' c' L qs, k ≤ M.length ∧ u14 = .int .i64 (k : Nat) ∧ LdAt w p F M k a' c' L qs wr
def LoadEnd (w : World) (F : List Nat) (M : List Nd) (e : Ending) (w' : World) : Prop :=
  ∃ p a' c' L qs, e = .returned (.tuple #[.pointer (some ⟨p, 0, none⟩), .bool true]) ∧ Pt w' w.heap.size p F a' c' L qs ∧ nds L = M ∧ Frm [] w w'
/-- One node more. -/
theorem LdAt.step {w : World} {p : Nat} {F : List Nat} {M : List Nd} {k : Nat} {a' a8 : Option Addr} {c' c8 : Nat} {L : List Nx} {qs : List Nat} {wr w7 w8 : World} {x : Nx} {q m : Nat} (h : LdAt w p F M k a' c' L qs wr) (hf : Frm [] wr w7) (hq : Whole w7 q 58 x.cells.toArray) (hqw : wr.heap.size ≤ q)
    (hx : NxOk w7 (p :: F) x) (hxn : ∀ y, x.a = some y → wr.heap.size ≤ y.block) (hM : M[k]? = some x.t) (hw : q < w7.heap.size) (hm : m = 1) (happ : AppV w7 w8 w.heap.size 153 (.slice a' k c') k m (qs.map ptr) [ptr q] a8 c8) :
    LdAt w p F M (k + 1) a8 c8 (L ++ [x]) (qs ++ [q]) (w8.setCell ⟨p, 0, none⟩ (.slice a8 (k + 1) c8)) := by
  subst hm
  have hpl := h.tree.lt
  have hblk : ∀ g ∈ blk a', w.heap.size ≤ g ∧ g < wr.heap.size := fun g hg => World.ownsRow.lt h.own g (ownBlk.2 hg)
  have hpb : p ∉ blk a' := fun hm => own_ne h.own h.tree (by decide) (ownBlk.2 hm)
  have hf8 : Frm (blk a') w7 w8 := (Frm.refl _ _).grown happ.grown (fun g hg => .inl (ownBlk.1 hg))
  have hf78 : Frm (blk a') wr w8 := hf.trans hf8 (by simp) (fun g hg => .inl hg)
  have ht8 := hf78.whole h.tree hpb
  have hs : Frm [p] w8 (w8.setCell ⟨p, 0, none⟩ (.slice a8 (k + 1) c8)) := (Frm.refl _ _).setCell (.inl (by simp)) _
  have hpl8 : ∀ g ∈ blk a8, g ∈ blk a' ∨ w7.heap.size ≤ g := by
    intro g hg
    have hg' : (Value.slice a8 (k + 1) c8).ownBlock = some g := ownBlk.2 hg
    rcases happ.place with h1 | h1
    · exact .inl (ownBlk.1 (h1 ▸ hg'))
    · rw [hg'] at h1; cases h1; exact .inr (Nat.le_refl _)
  have hnb : ∀ g ∈ blk a', ∀ r ∈ qs, g ≠ r := fun g hg r hr e => by
    subst e
    obtain ⟨i, hi, rfl⟩ := List.getElem_of_mem hr
    have hwn := h.nat.2 i (by rw [← h.nat.1]; exact hi)
    have e2 : qs.getD i 0 = qs[i] := by simp [hi]
    rw [e2] at hwn
    exact own_ne h.own hwn (by decide) (ownBlk.2 hg)
  have hqb : ∀ g ∈ blk a', g ≠ q := fun g hg e => by have := (hblk g hg).2; omega
  have hnat8 : NdsAt w8 L qs := ⟨h.nat.1, fun i hi => hf8.whole ((h.nat.keep hf).2 i hi) (fun hm => hnb _ hm _ (getD_mem (by rw [h.nat.1]; exact hi)) rfl)⟩
  have hq8 : Whole w8 q 58 x.cells.toArray := hf8.whole hq (fun hm => hqb _ hm rfl)
  have hnatz : NdsAt (w8.setCell ⟨p, 0, none⟩ (.slice a8 (k + 1) c8)) (L ++ [x]) (qs ++ [q]) := by
    have h1 := hnat8.append (NdsAt.one hq8)
    refine ⟨h1.1, fun i hi => hs.whole (h1.2 i hi) (fun hm => ?_)⟩
    rw [List.mem_singleton] at hm
    have hmem := getD_mem (qs := qs ++ [q]) (i := i) (by rw [h1.1]; exact hi)
    rw [hm] at hmem
    rcases List.mem_append.1 hmem with h2 | h2
    · have := h.qp p h2; omega
    · simp at h2; omega
  refine ⟨by simpa using ht8.put 0 (.slice a8 (k + 1) c8), ?_, hnatz, ?_, fun y hy => ?_, fun r hr => ?_, ?_, h.hp, h.out⟩
  · have h1 := happ.own
    rw [show qs.map ptr ++ [ptr q] = (qs ++ [q]).map ptr by simp] at h1
    exact hs.own h1 (fun g hg hm => by
      simp at hm; subst hm
      rcases hpl8 _ (ownBlk.1 hg) with h2 | h2
      · exact hpb h2
      · have := hf.size; omega)
  · rw [List.take_add_one, hM, ← h.nds]; simp [Go.Proofs.YtcbpppdmkhpkkaaGreat.nds]
  · have hF8 : ∀ z ∈ blk a8 ++ (p :: F), z ∈ blk a' ++ (p :: F) ∨ w7.heap.size ≤ z := fun z hz => by
      rcases List.mem_append.1 hz with h1 | h1
      · rcases hpl8 z h1 with h2 | h2
        · exact .inl (by simp [h2])
        · exact .inr h2
      · exact .inl (List.mem_append_right _ h1)
    have hy7 : NxOk w7 (blk a' ++ (p :: F)) y := by
      rcases List.mem_append.1 hy with h1 | h1
      · exact (h.ok y h1).keep hf (by simp) (fun z hz => .inl hz)
      · simp at h1; subst h1
        refine ⟨hx.bytes, fun hne z hz hm => ?_, hx.nil, hx.ver, hx.own, hx.key⟩
        rcases List.mem_append.1 hm with h2 | h2
        · have := (hblk _ h2).2; have := hxn z hz; omega
        · exact hx.away hne z hz h2
    have hy8 : NxOk w8 (blk a8 ++ (p :: F)) y := hy7.keep hf8 (fun z hz => .inl (by simp [hz])) hF8
    exact hy8.keep hs (fun z hz => .inl (by simp at hz; simp [hz])) (fun z hz => .inl hz)
  · rcases List.mem_append.1 hr with h1 | h1
    · exact h.qp r h1
    · simp at h1; omega
  · refine (h.frm.trans hf78 (U := []) (by simp) (fun z hz => .inr (hblk z hz).1)).trans hs (by simp) (fun z hz => ?_)
    simp at hz; subst hz; exact .inr h.hp

set_option maxRecDepth 100000 in
set_option maxHeartbeats 4000000 in
theorem load_any (a : Option Addr) (n c : Nat) (X : List Nx) (F : List Nat) (w : World) (h : NL w F a X) (hn : n = X.length) (hfit : n ≤ 9223372036854775807) (hF : ∀ x ∈ F, x < w.heap.size) :
    Calls Tryz.prog 93 #[.slice a n c] w fun e w' => (¬ LoadsP (nds X) ∧ e = .returned (.tuple #[.pointer none, .bool false]) ∧ Frm [] w w') ∨ (LoadsP (nds X) ∧ LoadEnd w F (nds X) e w') := by
  have HRT := Lib.hid (right_any a n c X F w h hn hfit)
  have H := Lib.hid h; clear h
  have HN := Lib.hid hn; clear hn
  have HFF := Lib.hid hF; clear hF
  obtain ⟨Q, hQ⟩ : ∃ Q : Ending → World → Prop, Q = fun e w' => (¬ LoadsP (nds X) ∧ e = .returned (.tuple #[.pointer none, .bool false]) ∧ Frm [] w w') ∨ (LoadsP (nds X) ∧ LoadEnd w F (nds X) e w') := ⟨_, rfl⟩
  rw [← hQ]
  have HQ := Lib.hid hQ; clear hQ
  go_enter Tryz.func93, Tryz.ntmps93
  go_wp2_with fail
  (with_reducible refine HRT.out.mono ?_)
  rintro e w1 ⟨⟨b, rfl, hb⟩, hf1⟩
  have HF1 := Lib.hid hf1; clear hf1
  cases b
  · have HE : Hid (Q (.returned (.tuple #[.pointer none, .bool false])) w1) := Lib.hid (by rw [HQ.out]; exact .inl ⟨fun h => by simpa using hb.2 h, rfl, HF1.out⟩)
    clear hb
    go_wp2
    exact HE.out
  · have hP : LoadsP (nds X) := hb.1 rfl
    have HP := Lib.hid hP
    have hn256 : n ≤ 256 := by rw [HN.out, ← nds_len']; exact hP.1
    clear hb hP
    have HNEW := Lib.hid (new_any w1 F (fun x hx => Nat.lt_of_lt_of_le (HFF.out x hx) HF1.out.size))
    go_wp2_with fail
    (with_reducible refine HNEW.out.mono ?_)
    rintro e w2 ⟨rfl, hpt, hf2, hz2⟩
    obtain ⟨p, hp⟩ : ∃ p, p = w1.heap.size := ⟨_, rfl⟩
    rw [← hp] at hpt ⊢
    have hfw2 := HF1.out.trans hf2 (U := []) (by simp) (by simp)
    have HST : Hid (LdAt w p F (nds X) 0 none 0 [] [] w2) := Lib.hid ⟨hpt.tree, World.ownsRow_nil _ _ _ _, ⟨rfl, fun i hi => by simp at hi⟩, by simp [nds], NOk.nil _ _, by simp, hfw2, by rw [hp]; exact HF1.out.size, HFF.out⟩
    clear hpt hf2 hz2 hp hfw2 HNEW
    go_wp2
    go_loopw [14] (fun u14 wr => LdRel w p F (nds X) u14 wr) (fun u14 _ => n - (intOf u14).toNat)
    case atStart => exact ⟨0, none, 0, [], [], Nat.zero_le _, rfl, HST.out⟩
    case round =>
      obtain ⟨k, a', c', L, qs, hk, rfl, hat⟩ := hrel
      have HA := Lib.hid hat; clear hat
      rw [nds_len', ← HN.out] at hk
      by_cases hlt : k < n
      · have hkX : k < X.length := by have := HN.out; omega
        obtain ⟨b, off, rfl, p0, p1, p2, p3, ok⟩ := (H.out.keep (F' := F) HA.out.frm (by simp) (fun x h => .inl h)).at hkX
        have hM : (nds X)[k]? = some (X.getD k default).t := by
          rw [← nds_getD]; simp [hkX, nds_len']
        have hlen := (HP.out.2 k (by rw [nds_len']; exact hkX)).1
        rw [nds_getD] at hlen
        obtain ⟨x, hx⟩ : ∃ x, x = X.getD k default := ⟨_, rfl⟩
        rw [← hx] at p0 p1 p2 p3 hM hlen ok
        obtain ⟨⟨xk, xv, xver, xown⟩, xa, xc⟩ := x
        simp only at p0 p1 p2 p3 hM hlen
        obtain ⟨m, hm⟩ : ∃ m, m = xv.length := ⟨_, rfl⟩
        rw [← hm] at p1 hlen
        have hl2 : xk.size ≤ 64 ∧ m ≤ 3840 := by
          unfold lenC at hlen
          split at hlen
          · omega
          · split at hlen <;> omega
        obtain ⟨hxk, hm38⟩ := hl2
        obtain ⟨g, hg⟩ : ∃ g, g = wr.heap.size := ⟨_, rfl⟩
        obtain ⟨w3, hw3⟩ : ∃ w3, w3 = wr.alloc (.cells #[.string xk, .slice xa m xc, .int .u64 (xver : Nat), .int .u64 (xown : Nat)] 58) := ⟨_, rfl⟩
        have hW3 := Whole.made wr 58 #[.string xk, .slice xa m xc, .int .u64 (xver : Nat), .int .u64 (xown : Nat)]
        rw [← hw3, ← hg] at hW3
        have hf3 : Frm [] wr w3 := by rw [hw3]; exact (Frm.refl _ _).alloc _
        have e0 := hW3.cell 0
        have e1 := hW3.cell 1
        have e2 := hW3.cell 2
        have e3 := hW3.cell 3
        simp at e0 e1 e2 e3
        rw [hw3] at e0 e1 e2 e3
        have HAL := Lib.hid (alone_any xk xa m xc xver xown xv w3 (hf3.bytes ok.bytes (by simp)) hm ok.nil (by omega) (by omega))
        have HW3 := Lib.hid hw3
        have HG := Lib.hid hg
        have HF3 := Lib.hid hf3
        have HM := Lib.hid hM
        have HMM := Lib.hid hm
        have OK := Lib.hid ok
        clear hx hM hlen hm hw3 hg hW3 hf3 ok hkX
        go_wp2_with fail
        rw [← HW3.out]
        (with_reducible refine HAL.out.mono ?_)
        rintro e w5 ⟨av, cv, rfl, hbv, hvnil, hvl, hf5⟩
        obtain ⟨q, hq⟩ : ∃ q, q = w5.heap.size := ⟨_, rfl⟩
        obtain ⟨w6, hw6⟩ : ∃ w6, w6 = w5.alloc (.cells #[.string xk, .slice av m cv, .int .u64 (xver : Nat), .int .u64 (xown : Nat)] 58) := ⟨_, rfl⟩
        obtain ⟨w7, hw7⟩ : ∃ w7, w7 = w6.alloc (.cells #[.pointer (some ⟨q, 0, none⟩)] 153) := ⟨_, rfl⟩
        have hW6 := Whole.made w5 58 #[.string xk, .slice av m cv, .int .u64 (xver : Nat), .int .u64 (xown : Nat)]
        rw [← hw6, ← hq] at hW6
        have hf56 : Frm [] w5 w6 := by rw [hw6]; exact (Frm.refl _ _).alloc _
        have hf67 : Frm [] w6 w7 := by rw [hw7]; exact (Frm.refl _ _).alloc _
        have hfr5 := HF3.out.trans hf5 (U := []) (by simp) (by simp)
        have hfr7 := (hfr5.trans hf56 (U := []) (by simp) (by simp)).trans hf67 (U := []) (by simp) (by simp)
        have hq1 : w6.heap.size = q + 1 := by rw [hw6, hq]; simp
        have hvals : ValsAt w7 (some ⟨q + 1, 0, none⟩) [ptr q] := by rw [hw7, ← hq1]; exact ValsAt.one w6 _ _
        have hW7 : Whole w7 q 58 (Nx.cells ⟨⟨xk, xv, xver, xown⟩, av, cv⟩).toArray := by
          have := hf67.whole hW6 (by simp)
          rw [HMM.out] at this; exact this
        have hpl := HA.out.tree.lt
        have hx7 : NxOk w7 (p :: F) ⟨⟨xk, xv, xver, xown⟩, av, cv⟩ := by
          refine ⟨(hf56.trans hf67 (U := []) (by simp) (by simp)).bytes hbv (by simp), fun _ y hy hmem => ?_, hvnil, OK.out.ver, OK.out.own, OK.out.key⟩
          have h1 := hvl y hy
          have h2 := HF3.out.size
          rcases List.mem_cons.1 hmem with h | h
          · omega
          · have := HFF.out _ h; have := HA.out.frm.size; omega
        have hqw : wr.heap.size ≤ q := by rw [hq]; exact hfr5.size
        have hq7 : q < w7.heap.size := hW7.lt
        have hown7 := hfr7.own HA.out.own (by simp)
        have ht6 := ((hfr5.trans hf56 (U := []) (by simp) (by simp)).whole HA.out.tree (by simp)).cell 0
        simp at ht6
        have hxn : ∀ y, av = some y → wr.heap.size ≤ y.block := fun y hy => Nat.le_trans HF3.out.size (hvl y hy)
        have HOWN := Lib.hid hown7
        have HVAL := Lib.hid hvals
        have HSTEP := Lib.hid (fun a8 c8 w8 happ => HA.out.step (x := ⟨⟨xk, xv, xver, xown⟩, av, cv⟩) (m := 1) (a8 := a8) (c8 := c8) (w8 := w8) hfr7 hW7 hqw hx7 hxn HM.out hq7 rfl happ)
        have HFW7 := Lib.hid (HA.out.frm.trans hfr7 (U := []) (by simp) (by simp))
        have HKK := Lib.hid HA.out.k
        have hfit1 : k + 1 ≤ 1000000000 := by omega
        have HFR7 := Lib.hid hfr7
        have HQ5 := Lib.hid hq
        have HW6 := Lib.hid hw6
        have HW7 := Lib.hid hw7
        obtain ⟨i0, hi, hz0, hz1, hz2⟩ := info_parts Tryz.info153
        have HI := Lib.hid hi; clear hi
        have HZ0 := Lib.hid hz0; clear hz0
        have HZ1 := Lib.hid hz1; clear hz1
        have HZ2 := Lib.hid hz2; clear hz2
        have HBW := Lib.hid HFW7.out.size
        have HONE : Hid (∀ u ∈ [ptr q], u.oneCell' = true) := Lib.hid (fun u hu => by simp at hu; subst hu; rfl)
        rw [hw6] at ht6
        clear hbv hvnil hvl hf5 hq hq1 hw6 hw7 hW6 hf56 hf67 hfr5 hfr7 hvals hW7 hpl hx7 hqw hq7 hown7 hxn HAL
        go_wp2_with (at_builtin; rw [← HW6.out, ← HQ5.out, ← HW7.out]; refine wpList_appV rfl (.tmp 24) (.tmp 25) 150 rfl w.heap.size 153 i0 (.pointer none) 8 Tryz.underlying150 HI.out HZ0.out rfl HZ1.out HZ2.out (by decide) (.slice a' k c') k _ rfl HOWN.out _ 1 1 _ rfl HVAL.out rfl HONE.out (fun h => by cases h) hfit1 HBW.out ?_)
        intro a8 c8 w8 happ
        have hst := HSTEP.out a8 c8 w8 happ
        have hpb : p ∉ blk a' := fun hm => own_ne HA.out.own HA.out.tree (by decide) (ownBlk.2 hm)
        have hf8 : Frm (blk a') _ w8 := (Frm.refl _ _).grown happ.grown (fun g hg => .inl (ownBlk.1 hg))
        have ht8 := hf8.whole (HFR7.out.whole HA.out.tree (by simp)) hpb
        have t0 := ht8.cell 0
        have f0 := ht8.free 0
        simp at t0
        have HREL : Hid (LdRel w p F (nds X) (.int .i64 ((k + 1 : Nat) : Int)) (w8.setCell ⟨p, 0, none⟩ (.slice a8 (k + 1) c8))) := Lib.hid ⟨k + 1, a8, c8, _, _, by rw [nds_len', ← HN.out]; omega, rfl, hst⟩
        clear happ hst hpb hf8 ht8 HSTEP HOWN HVAL
        go_wp2
        go_roundw
        case rel => exact HREL.out
        case measure => simp [intOf]; omega
      · obtain rfl : k = n := by omega
        have HE : Hid (Q (.returned (.tuple #[.pointer (some ⟨p, 0, none⟩), .bool true])) wr) := Lib.hid (by
          rw [HQ.out]
          refine .inr ⟨HP.out, p, a', c', L, qs, rfl, ?_, ?_, HA.out.frm⟩
          · have hh := HA.out
            obtain ⟨hk1, hk2⟩ := hh.k
            have hblk : ∀ g ∈ blk a', w.heap.size ≤ g ∧ g < wr.heap.size := fun g hg => World.ownsRow.lt hh.own g (ownBlk.2 hg)
            have hpb : p ∉ blk a' := fun hm => own_ne hh.own hh.tree (by decide) (ownBlk.2 hm)
            have hcaps : k ≤ c' ∧ c' ≤ maxLen ∧ (a' = none → c' = 0) := by
              have ho : OwnP wr w.heap.size a' c' (qs.map ptr) := by unfold OwnP; rw [List.length_map, hk1]; exact hh.own
              have := ho.caps
              rwa [List.length_map, hk1] at this
            have hvals := own_vals hh.own
            refine ⟨by rw [hk2]; exact hh.tree, hh.nat.1, hvals, hh.nat.2, fun x hx => (hh.ok x hx).keep (S := []) (Frm.refl _ _) (by simp) (fun z hz => .inl (by simp at hz ⊢; rcases hz with h | h <;> simp [h])), hh.hp, fun hm => by have := hh.out p hm; have := hh.hp; omega, fun _ y hy hm => ?_, fun r hr hm => ?_, by rw [hk2]; omega, by rw [hk2]; exact hcaps.1, hcaps.2.1, hcaps.2.2⟩
            · have hb := hblk y.block (by rw [hy]; simp)
              rcases List.mem_cons.1 hm with h | h
              · exact hpb (by rw [hy]; simp [h])
              · have := hh.out _ h; omega
            · have := hh.qp r hr
              rcases List.mem_cons.1 hm with h | h
              · omega
              · have := hh.out _ h; have := hh.hp; omega
          · rw [HA.out.nds, List.take_of_length_le (by rw [nds_len', ← HN.out]; omega)])
        clear hk
        go_wp2
        exact HE.out
end Go.Proofs.YtcbpppdmkhpkkaaGreat
/- Contract of the program's add. -/
namespace Go.Proofs.YtcbpppdmkhpkkaaGreat
open Go.RowKit

/-- What a change of the book leaves. -/
def BkTo (w w' : World) (B p : Nat) (last' : Nat) (X' : List Sn) : Prop := (∃ Y', Bk w' B p 170 last' X' Y') ∧ Frm [p] w w'

set_option maxRecDepth 100000 in
set_option maxHeartbeats 2000000 in
theorem add_any {w : World} {B p last : Nat} {X Y : List Sn} (s : Sn) (h : Bk w B p 170 last X Y) (hf : s.fits) (hn : X.length < 16) (hs : SrtS last (X ++ [s])) :
    Calls Tryz.prog 90 #[.pointer (some ⟨p, 0, none⟩), s.val] w fun e w' => e = .returned (.tuple #[]) ∧ BkTo w w' B p last (X ++ [s]) := by
  have hend : ∀ z : World, Frm [] w z → BkTo w (((((z.setCell ⟨p, 2 + X.length * 3, none⟩ (.int .u64 (s.id : Nat))).setCell ⟨p, 2 + X.length * 3 + 1, none⟩ (.int .u64 (s.ends : Nat))).setCell ⟨p, 2 + X.length * 3 + 2, none⟩ (.int .u64 (s.life : Nat)))).setCell ⟨p, 1, none⟩ (.int .i64 ((X.length + 1 : Nat) : Nat))) B p last (X ++ [s]) := by
    intro z hz
    refine ⟨⟨Y.set X.length s, ?_, ?_, by rw [List.length_set]; exact h.len, fun y hy => ?_, h.hp, h.lt, hs⟩, ?_⟩
    · have h0 := ((((hz.whole h.book (by simp)).put (2 + X.length * 3) (.int .u64 (s.id : Nat))).put (2 + X.length * 3 + 1) (.int .u64 (s.ends : Nat))).put (2 + X.length * 3 + 2) (.int .u64 (s.life : Nat))).put 1 (.int .i64 ((X.length + 1 : Nat) : Nat))
      have e : ((((bkL last X.length Y).toArray.setIfInBounds (2 + X.length * 3) (.int .u64 (s.id : Nat))).setIfInBounds (2 + X.length * 3 + 1) (.int .u64 (s.ends : Nat))).setIfInBounds (2 + X.length * 3 + 2) (.int .u64 (s.life : Nat))).setIfInBounds 1 (.int .i64 ((X.length + 1 : Nat) : Nat)) = (bkL last (X ++ [s]).length (Y.set X.length s)).toArray := by
        simp only [List.setIfInBounds_toArray]
        congr 1
        simp only [bkL, List.length_append, List.length_singleton]
        rw [← snc_set Y s X.length (by rw [h.len]; exact hn)]
        rw [show 2 + X.length * 3 = X.length * 3 + 1 + 1 by omega, show X.length * 3 + 1 + 1 + 1 = X.length * 3 + 1 + 1 + 1 by rfl, show X.length * 3 + 1 + 1 + 2 = X.length * 3 + 2 + 1 + 1 by omega]
        rfl
      rw [e] at h0
      exact h0
    · rw [List.length_append, List.length_singleton]
      have hl := h.len
      rw [List.take_succ_eq_append_getElem (by rw [List.length_set]; omega), List.take_set_of_le (Nat.le_refl _), h.pre, List.getElem_set_self]
    · rcases List.mem_or_eq_of_mem_set hy with h1 | h1
      · exact h.fits y h1
      · subst h1; exact hf
    · exact ((((((Frm.refl [p] w).trans (hz.weak (by simp)) (fun x hx => hx) (fun x hx => .inl hx)).setCell (.inl (by simp)) _).setCell (.inl (by simp)) _).setCell (.inl (by simp)) _).setCell (.inl (by simp)) _)
  have HE := Lib.hid hend
  have HW := Lib.hid (fun (z : World) (hz : Frm [] w z) => hz.whole h.book (by simp))
  have HC1 := Lib.hid (fun (z : World) (hz : Frm [] w z) => (h.keep hz (by simp)).c1)
  have HC2 := Lib.hid (fun (z : World) (hz : Frm [] w z) (u0 u1 u2 : Value) => (show ((((z.setCell ⟨p, 2 + X.length * 3, none⟩ u0).setCell ⟨p, 2 + X.length * 3 + 1, none⟩ u1).setCell ⟨p, 2 + X.length * 3 + 2, none⟩ u2)).cell? ⟨p, 1, none⟩ = some (.int .i64 (X.length : Nat)) ∧ ((((z.setCell ⟨p, 2 + X.length * 3, none⟩ u0).setCell ⟨p, 2 + X.length * 3 + 1, none⟩ u1).setCell ⟨p, 2 + X.length * 3 + 2, none⟩ u2)).frozen? ⟨p, 1, none⟩ = false from by
    have h0 := (((hz.whole h.book (by simp)).put (2 + X.length * 3) u0).put (2 + X.length * 3 + 1) u1).put (2 + X.length * 3 + 2) u2
    refine ⟨?_, h0.free 1⟩
    rw [h0.cell, Array.getElem?_setIfInBounds_ne (by omega), Array.getElem?_setIfInBounds_ne (by omega), Array.getElem?_setIfInBounds_ne (by omega)]
    rfl))
  have HR := Lib.hid (fun (z : World) (hz : Frm [] w z) (j : Nat) (hj : j < 48) => (show (z.cell? ⟨p, 2 + j, none⟩).isSome = true ∧ z.frozen? ⟨p, 2 + j, none⟩ = false from ⟨by rw [(h.keep hz (by simp)).cells, List.getElem?_eq_getElem (by rw [snc_length, h.len]; exact hj)]; rfl, (hz.whole h.book (by simp)).free _⟩))
  obtain ⟨i, en, li⟩ := s
  unfold Sn.val
  obtain ⟨n, hnn⟩ : ∃ n, n = X.length := ⟨_, rfl⟩
  rw [← hnn] at HE HC1 HC2 hn
  clear h hend hnn hf hs HW
  go_enter Tryz.func90, Tryz.ntmps90
  go_wp2
  obtain ⟨z, hz⟩ : ∃ z, z = w.alloc (.cells #[.int .u64 (i : Nat), .int .u64 (en : Nat), .int .u64 (li : Nat)] 142) := ⟨_, rfl⟩
  have hf : Frm [] w z := by rw [hz]; exact (Frm.refl _ _).alloc _
  have hwb : Whole z w.heap.size 142 #[.int .u64 (i : Nat), .int .u64 (en : Nat), .int .u64 (li : Nat)] := by rw [hz]; exact Whole.made _ _ _
  have b0 := hwb.cell 0
  have b1 := hwb.cell 1
  have b2 := hwb.cell 2
  simp at b0 b1 b2
  have c1 := HC1.out z hf
  obtain ⟨r0, s0⟩ := HR.out z hf (n * 3) (by omega)
  obtain ⟨r1, s1⟩ := HR.out z hf (n * 3 + 1) (by omega)
  obtain ⟨r2, s2⟩ := HR.out z hf (n * 3 + 2) (by omega)
  rw [← Nat.add_assoc] at r1 r2 s1 s2
  obtain ⟨v0, r0⟩ := Option.isSome_iff_exists.1 r0
  obtain ⟨v1, r1⟩ := Option.isSome_iff_exists.1 r1
  obtain ⟨v2, r2⟩ := Option.isSome_iff_exists.1 r2
  obtain ⟨g, hg⟩ : ∃ g, g = w.heap.size := ⟨_, rfl⟩
  rw [← hz]
  rw [← hg] at b0 b1 b2 ⊢
  clear hwb hz hg
  go_region
  obtain ⟨q1, q2⟩ := HC2.out z.drew hf.drew (.int .u64 (i : Nat)) (.int .u64 (en : Nat)) (.int .u64 (li : Nat))
  have hfin := HE.out z.drew hf.drew
  obtain ⟨z2, hz2⟩ : ∃ z2, z2 = (((z.drew.setCell ⟨p, 2 + n * 3, none⟩ (.int .u64 (i : Nat))).setCell ⟨p, 2 + n * 3 + 1, none⟩ (.int .u64 (en : Nat))).setCell ⟨p, 2 + n * 3 + 2, none⟩ (.int .u64 (li : Nat))) := ⟨_, rfl⟩
  rw [← hz2] at q1 q2 hfin
  have hz3 : (((z.setCell ⟨p, 2 + n * 3, none⟩ (.int .u64 (i : Nat))).setCell ⟨p, 2 + n * 3 + 1, none⟩ (.int .u64 (en : Nat))).setCell ⟨p, 2 + n * 3 + 2, none⟩ (.int .u64 (li : Nat))).drew = z2 := hz2.symm
  have HFIN := Lib.hid hfin
  have hsi : IntKind.i64.wrap ((n : Int) + 1) = (n : Int) + 1 := IntWalk.i64_in _ (by omega)
  first
    | rw [← hz2]
    | rw [hz3]
  clear hz2 hz3 hfin c1 b0 b1 b2 r0 r1 r2 s0 s1 s2 v0 v1 v2
  go_wp2
  go_end0
  exact ⟨rfl, HFIN.out⟩
end Go.Proofs.YtcbpppdmkhpkkaaGreat
/- Contracts of the program's Open and Renew. -/
namespace Go.Proofs.YtcbpppdmkhpkkaaGreat
open Go.RowKit

theorem Bk.bump {w : World} {B p : Nat} {t : TypeId} {last : Nat} {X Y : List Sn} (h : Bk w B p t last X Y) (hl : last + 1 < 18446744073709551616) : Bk (w.setCell ⟨p, 0, none⟩ (.int .u64 ((last + 1 : Nat) : Nat))) B p t (last + 1) X Y :=
  { h with book := by have h0 := h.book.put 0 (.int .u64 ((last + 1 : Nat) : Nat)); simpa [bkL] using h0, lt := hl, srt := h.srt.more (by omega) }
/-- What a call that answers a value leaves. -/
def BkEnd (w : World) (B p : Nat) (last' : Nat) (X' : List Sn) (v : Value) (e : Ending) (w' : World) : Prop := e = .returned v ∧ BkTo w w' B p last' X'

set_option maxRecDepth 100000 in
set_option maxHeartbeats 4000000 in
theorem open_any {w : World} {B p last : Nat} {X Y : List Sn} (now life : Nat) (h : Bk w B p 170 last X Y) (hnow : now < 18446744073709551616) :
    Calls Tryz.prog 62 #[.pointer (some ⟨p, 0, none⟩), .int .u64 (now : Nat), .int .u64 (life : Nat)] w
      (BkEnd w B p (openT last X.length life) (openS X last now life) (.tuple #[.int .u64 (openR last X.length life : Nat), .int .i64 (openC last X.length life : Nat)])) := by
  have hLA := lasts_any (w := w) life
  have c0 := h.c0
  have c1 := h.c1
  have f0 := h.book.free 0
  have hsrt := openS_srt (now := now) (life := life) h.srt
  have HSAME : Hid (BkTo w w B p last X) := Lib.hid ⟨⟨Y, h⟩, Frm.refl _ _⟩
  by_cases hlife : lastsS life
  · rw [show decide (lastsS life) = true from decide_eq_true hlife] at hLA
    have HLA := Lib.hid hLA; clear hLA
    by_cases h16 : X.length = 16
    · have hc : openC last X.length life = 14 := by unfold openC; rw [if_pos (show 1 ≤ life ∧ life ≤ 1099511627776 from hlife), if_pos (.inl h16)]
      have hr : openR last X.length life = 0 := by unfold openR; rw [hc]; rfl
      have ht : openT last X.length life = last := by unfold openT; rw [hc]; rfl
      have hX : openS X last now life = X := by unfold openS; rw [hc]; rfl
      rw [hc, hr, ht, hX]
      rw [h16] at c1
      clear hc hr ht hX h hsrt
      go_enter Tryz.func62, Tryz.ntmps62
      go_wp2_with fail
      (with_reducible refine HLA.out.mono ?_)
      rintro e w' ⟨rfl, rfl⟩
      go_wp2
      go_ret2
      exact ⟨rfl, HSAME.out⟩
    · by_cases hmax : last = 18446744073709551615
      · have hc : openC last X.length life = 14 := by unfold openC; rw [if_pos (show 1 ≤ life ∧ life ≤ 1099511627776 from hlife), if_pos (.inr hmax)]
        have hr : openR last X.length life = 0 := by unfold openR; rw [hc]; rfl
        have ht : openT last X.length life = last := by unfold openT; rw [hc]; rfl
        have hX : openS X last now life = X := by unfold openS; rw [hc]; rfl
        rw [hc, hr, ht, hX]
        generalize X.length = n at c1 h16
        have hn16 : ((n : Int) == 16) = false := by rw [beq_eq_false_iff_ne]; omega
        have hmm : ((last : Int) == 18446744073709551615) = true := by rw [beq_iff_eq]; omega
        clear hc hr ht hX h hsrt hmax
        go_enter Tryz.func62, Tryz.ntmps62
        go_wp2_with fail
        (with_reducible refine HLA.out.mono ?_)
        rintro e w' ⟨rfl, rfl⟩
        go_wp2
        go_ret2
        exact ⟨rfl, HSAME.out⟩
      · have hc : openC last X.length life = 0 := by unfold openC; rw [if_pos (show 1 ≤ life ∧ life ≤ 1099511627776 from hlife), if_neg (fun h => h.elim h16 hmax)]
        have hr : openR last X.length life = last + 1 := by unfold openR; rw [hc]; rfl
        have ht : openT last X.length life = last + 1 := by unfold openT; rw [hc]; rfl
        have hX : openS X last now life = X ++ [⟨last + 1, sumU now life, life⟩] := by unfold openS; rw [hc]; rfl
        rw [ht, hX] at hsrt
        rw [hc, hr, ht, hX]
        have hlt := h.lt
        have hl1 : last + 1 < 18446744073709551616 := by omega
        have hx16 : X.length < 16 := by have := h.few; omega
        have hb1 := h.bump hl1
        have HAD := Lib.hid (fun (z : World) (hz : Frm [] (w.setCell ⟨p, 0, none⟩ (.int .u64 ((last + 1 : Nat) : Nat))) z) => add_any (w := z) ⟨last + 1, sumU now life, life⟩ (hb1.keep hz (by simp)) (fits_push hlife.2 hl1) hx16 hsrt)
        have hf1 : Frm [p] w (w.setCell ⟨p, 0, none⟩ (.int .u64 ((last + 1 : Nat) : Nat))) := (Frm.refl _ _).setCell (.inl (by simp)) _
        have HEN := Lib.hid (fun w => bkend_any (w := w) now life hnow)
        unfold Sn.val at HAD
        simp only at HAD
        obtain ⟨s, hs⟩ : ∃ s, s = sumU now life := ⟨_, rfl⟩
        rw [← hs] at HAD HEN ⊢
        obtain ⟨l1, hl1'⟩ : ∃ l1, l1 = last + 1 := ⟨_, rfl⟩
        have hw0 : ((last : Int) + 1) % 18446744073709551616 = (l1 : Int) := by omega
        have hw : IntKind.u64.wrap ((last : Int) + 1) = (l1 : Int) := by rw [← hw0]; simp [IntKind.wrap, IntKind.bits, IntKind.signed]
        rw [← hl1'] at HAD hf1 hb1 ⊢
        have c01 := hb1.c0
        obtain ⟨w1, hw1⟩ : ∃ w1, w1 = w.setCell ⟨p, 0, none⟩ (.int .u64 (l1 : Nat)) := ⟨_, rfl⟩
        rw [← hw1] at HAD hf1 c01
        have HF1 := Lib.hid hf1
        have hw1' : w.setCell ⟨p, 0, none⟩ (.int .u64 (l1 : Nat)) = w1 := hw1.symm
        generalize X.length = n at c1 h16
        have hn16 : ((n : Int) == 16) = false := by rw [beq_eq_false_iff_ne]; omega
        have hmm : ((last : Int) == 18446744073709551615) = false := by rw [beq_eq_false_iff_ne]; omega
        clear hc hr ht hX h hsrt hmax hb1 hf1 hs hl1' hl1 hw1 HSAME hlt hx16 h16
        go_enter Tryz.func62, Tryz.ntmps62
        go_wp2_with fail
        (with_reducible refine HLA.out.mono ?_)
        rintro e w' ⟨rfl, rfl⟩
        go_wp2
        try rw [hw1']
        go_region_with (first
          | (go_at_call 98; refine (HEN.out _).mono ?_; rintro e w' ⟨rfl, rfl⟩)
          | (go_at_call 90; refine (HAD.out _ (by repeat (first | exact Frm.refl _ _ | apply Frm.drew))).mono ?_; rintro e w5 ⟨rfl, ⟨Y5, hb5⟩, hf5⟩; have c05 := hb5.c0; have HE5 : Hid (BkTo w w5 B p l1 (X ++ [⟨l1, s, life⟩])) := (Lib.hid ⟨⟨Y5, hb5⟩, HF1.out.trans (Frm.drew (Frm.refl [] w1) |>.weak (by simp) |>.trans hf5 (fun x hx => hx) (fun x hx => .inl hx)) (fun x hx => hx) (fun x hx => .inl hx)⟩); clear hb5 hf5))
        all_goals
          go_wp2
          go_ret2
          exact ⟨rfl, HE5.out⟩
  · rw [show decide (lastsS life) = false from decide_eq_false hlife] at hLA
    have HLA := Lib.hid hLA; clear hLA
    have hc : openC last X.length life = 63 := by unfold openC; rw [if_neg (show ¬ (1 ≤ life ∧ life ≤ 1099511627776) from hlife)]
    have hr : openR last X.length life = 0 := by unfold openR; rw [hc]; rfl
    have ht : openT last X.length life = last := by unfold openT; rw [hc]; rfl
    have hX : openS X last now life = X := by unfold openS; rw [hc]; rfl
    rw [hc, hr, ht, hX]
    clear hc hr ht hX h hsrt hlife
    go_enter Tryz.func62, Tryz.ntmps62
    go_wp2_with fail
    (with_reducible refine HLA.out.mono ?_)
    rintro e w' ⟨rfl, rfl⟩
    go_wp2
    go_ret2
    exact ⟨rfl, HSAME.out⟩
end Go.Proofs.YtcbpppdmkhpkkaaGreat
/- Contract of the program's Renew. -/
namespace Go.Proofs.YtcbpppdmkhpkkaaGreat
open Go.RowKit

theorem Bk.setEnds {w : World} {B p : Nat} {t : TypeId} {last : Nat} {X Y : List Sn} (h : Bk w B p t last X Y) {i : Nat} (hi : i < X.length) (e : Nat) (he : e < 18446744073709551616) :
    Bk (w.setCell ⟨p, 2 + i * 3 + 1, none⟩ (.int .u64 (e : Nat))) B p t last (X.set i { X.getD i default with ends := e }) (Y.set i { Y.getD i default with ends := e }) := by
  have hl := h.len
  have hf := h.few
  have hg := h.get hi
  have hiY : i < Y.length := by omega
  refine ⟨?_, ?_, by rw [List.length_set]; exact hl, fun y hy => ?_, h.hp, h.lt, h.srt.ends i e hi⟩
  · have h0 := h.book.put (2 + i * 3 + 1) (.int .u64 (e : Nat))
    have e1 : ((bkL last X.length Y).toArray.setIfInBounds (2 + i * 3 + 1) (.int .u64 (e : Nat))) = (bkL last (X.set i { X.getD i default with ends := e }).length (Y.set i { Y.getD i default with ends := e })).toArray := by
      simp only [List.setIfInBounds_toArray]
      congr 1
      simp only [bkL, List.length_set]
      rw [← snc_ends Y i e hiY, show 2 + i * 3 + 1 = i * 3 + 1 + 1 + 1 by omega]
      rfl
    rw [e1] at h0
    exact h0
  · rw [List.length_set, List.take_set, h.pre, hg]
  · rcases List.mem_or_eq_of_mem_set hy with h1 | h1
    · exact h.fits y h1
    · subst h1
      have h2 := h.fits (Y.getD i default) (by rw [getS hiY]; exact List.getElem_mem hiY)
      exact ⟨h2.1, he, h2.2.2⟩

set_option maxRecDepth 100000 in
set_option maxHeartbeats 4000000 in
theorem renew_any {w : World} {B p last : Nat} {X Y : List Sn} (id now : Nat) (h : Bk w B p 170 last X Y) (hnow : now < 18446744073709551616) :
    Calls Tryz.prog 99 #[.pointer (some ⟨p, 0, none⟩), .int .u64 (id : Nat), .int .u64 (now : Nat)] w fun e w' => e = .returned (.int .i64 (renewC X id now : Nat)) ∧ BkTo w w' B p last (renewL X id now) := by
  have hFI := Lib.hid (bkfind_any id h)
  have HSAME : Hid (∀ z, Frm [] w z → BkTo w z B p last X) := Lib.hid (fun z hz => ⟨⟨Y, h.keep hz (by simp)⟩, hz.weak (by simp)⟩)
  by_cases hin : atS X id < X.length
  · obtain ⟨x, hx⟩ : ∃ x, x = X.getD (atS X id) default := ⟨_, rfl⟩
    have HAT := Lib.hid (fun (z : World) (hz : Frm [] w z) => (h.keep hz (by simp)).at hin)
    rw [← hx] at HAT
    have hi16 : atS X id < 16 := by have := h.few; omega
    have HIN := Lib.hid hin
    have hov := Lib.hid (fun w => over_any (w := w) x now)
    unfold Sn.val at hov
    by_cases hover : x.ends ≤ now
    · have hc : renewC X id now = 15 := by unfold renewC; rw [if_pos hin, ← hx, if_pos hover]
      have hX : renewL X id now = X := by unfold renewL; rw [hc]; rfl
      rw [hc, hX]
      rw [show decide (x.ends ≤ now) = true from decide_eq_true hover] at hov
      clear h hin hx hc hX hover
      go_enter Tryz.func99, Tryz.ntmps99
      go_wp2_with fail
      (with_reducible refine hFI.out.mono ?_)
      rintro e w1 ⟨v, rfl, hv, hf1⟩
      obtain rfl := finds_some HIN.out hv
      obtain ⟨q, hq⟩ : ∃ q, q = atS X id := ⟨_, rfl⟩
      rw [← hq] at HAT hi16 ⊢
      obtain ⟨p0, p1, p2, _⟩ := HAT.out _ hf1
      have HF1 := Lib.hid hf1
      clear hf1 hv hq HAT hFI HIN
      go_wp2_with fail
      (with_reducible refine (hov.out _).mono ?_)
      rintro e w2 ⟨rfl, hf2⟩
      have HF2 := Lib.hid ((HF1.out.alloc _).trans hf2 (U := []) (by simp) (by simp))
      clear hf2
      go_wp2
      go_ret
      exact ⟨rfl, HSAME.out _ HF2.out⟩
    · have hc : renewC X id now = 0 := by unfold renewC; rw [if_pos hin, ← hx, if_neg hover]
      have hX : renewL X id now = renewS X (atS X id) now := by unfold renewL; rw [hc]; rfl
      rw [hc, hX]
      unfold renewS
      rw [← hx]
      rw [show decide (x.ends ≤ now) = false from decide_eq_false hover] at hov
      have hxf := (h.at hin).2.2.2
      rw [← hx] at hxf
      obtain ⟨m, hm⟩ : ∃ m, m = max x.ends (sumU now x.life) := ⟨_, rfl⟩
      have hmlt : m < 18446744073709551616 := by have := sumU_lt now x.life; have := hxf.2.1; omega
      have HSE := Lib.hid (fun (z : World) (hz : Frm [] w z) => (h.keep hz (by simp)).setEnds hin m hmlt)
      have HBK := Lib.hid (fun (z : World) (hz : Frm [] w z) => (hz.whole h.book (by simp)))
      rw [← hx] at HSE
      have HEN := Lib.hid (fun w => bkend_any (w := w) now x.life hnow)
      obtain ⟨s, hs⟩ : ∃ s, s = sumU now x.life := ⟨_, rfl⟩
      rw [← hs] at hm HEN
      have hmax : max (x.ends : Int) (s : Int) = (m : Int) := by omega
      have hcase : (x.ends < s ∧ m = s) ∨ (x.ends = s ∧ m = s) ∨ (s < x.ends ∧ m = x.ends) := by omega
      rw [← hs, ← hm]
      obtain ⟨q, hq⟩ : ∃ q, q = atS X id := ⟨_, rfl⟩
      rw [← hq] at HAT hi16 HSE hx ⊢
      have HQ := Lib.hid hq
      have HX := Lib.hid hx
      have hlt := h.book.lt
      clear h hin hc hX hover hxf hmlt hs hm hq hx
      go_enter Tryz.func99, Tryz.ntmps99
      go_wp2_with fail
      (with_reducible refine hFI.out.mono ?_)
      rintro e w1 ⟨v, rfl, hv, hf1⟩
      obtain rfl := finds_some HIN.out hv
      rw [← HQ.out]
      obtain ⟨p0, p1, p2, _⟩ := HAT.out _ hf1
      have HF1 := Lib.hid hf1
      clear hf1 hv hFI HIN HQ
      obtain ⟨xi, xe, xl⟩ := x
      simp only at p0 p1 p2 hov HEN hmax hcase HSE
      go_wp2_with fail
      obtain ⟨w2, hw2⟩ : ∃ w2, w2 = w1.alloc (.cells #[.int .u64 (xi : Nat), .int .u64 (xe : Nat), .int .u64 (xl : Nat)] 142) := ⟨_, rfl⟩
      have hwb : Whole w2 w1.heap.size 142 #[.int .u64 (xi : Nat), .int .u64 (xe : Nat), .int .u64 (xl : Nat)] := by rw [hw2]; exact Whole.made _ _ _
      have hf2 : Frm [] w w2 := by rw [hw2]; exact HF1.out.alloc _
      rw [← hw2]
      obtain ⟨g, hg⟩ : ∃ g, g = w1.heap.size := ⟨_, rfl⟩
      rw [← hg] at hwb ⊢
      clear hw2 hg p0 p1 p2
      have HF2 := Lib.hid hf2
      have HWB := Lib.hid hwb
      clear hf2 hwb HF1
      (with_reducible refine (hov.out _).mono ?_)
      rintro e w3 ⟨rfl, hf3⟩
      have HF3 := Lib.hid (HF2.out.trans hf3 (U := []) (by simp) (by simp))
      have hwb3 := hf3.whole HWB.out (by simp)
      have b1 := hwb3.cell 1
      have b2 := hwb3.cell 2
      simp at b1 b2
      obtain ⟨_, p1, _, _⟩ := HAT.out _ HF3.out
      have fp := (HBK.out _ HF3.out).free (2 + q * 3 + 1)
      have HFIN := Lib.hid (HSE.out _ HF3.out.drew)
      have HFR : Hid (Frm [p] w (w3.drew.setCell ⟨p, 2 + q * 3 + 1, none⟩ (.int .u64 (m : Nat)))) := Lib.hid (((HF3.out.drew).weak (by simp)).setCell (.inl (by simp)) _)
      clear hf3 hwb3 HAT
      rcases hcase with ⟨hle, rfl⟩ | ⟨hle, rfl⟩ | ⟨hle, rfl⟩
      · have hlt2 : ¬ m < xe := by omega
        go_wp2
        go_region_with (go_at_call 98; refine (HEN.out _).mono ?_; rintro e w' ⟨rfl, rfl⟩)
        all_goals
          go_wp2
          go_ret
          exact ⟨rfl, ⟨_, HFIN.out⟩, HFR.out⟩
      · subst hle
        go_wp2
        go_region_with (go_at_call 98; refine (HEN.out _).mono ?_; rintro e w' ⟨rfl, rfl⟩)
        all_goals
          go_wp2
          go_ret
          exact ⟨rfl, ⟨_, HFIN.out⟩, HFR.out⟩
      · have hlt2 : ¬ m < s := by omega
        go_wp2
        go_region_with (go_at_call 98; refine (HEN.out _).mono ?_; rintro e w' ⟨rfl, rfl⟩)
        all_goals
          go_wp2
          go_ret
          exact ⟨rfl, ⟨_, HFIN.out⟩, HFR.out⟩
  · have hc : renewC X id now = 11 := by unfold renewC; rw [if_neg hin]
    have hX : renewL X id now = X := by unfold renewL; rw [hc]; rfl
    rw [hc, hX]
    have HIN := Lib.hid hin
    clear h hin hc hX
    go_enter Tryz.func99, Tryz.ntmps99
    go_wp2_with fail
    (with_reducible refine hFI.out.mono ?_)
    rintro e w1 ⟨v, rfl, hv, hf1⟩
    obtain ⟨i, rfl⟩ := finds_none HIN.out hv
    have HF1 := Lib.hid hf1
    clear hf1 hv
    go_wp2
    go_ret
    exact ⟨rfl, HSAME.out _ HF1.out⟩
end Go.Proofs.YtcbpppdmkhpkkaaGreat
/- Contracts of slices.Delete over the book's row, and of Close. -/
namespace Go.Proofs.YtcbpppdmkhpkkaaGreat
open Go.RowKit

theorem run_clear3 (w : World) (g o c t : Nat) (hc : ∀ j, j < 3 → (w.cell? ⟨g, o + j, none⟩).isSome = true) (hf : ∀ j, j < 3 → w.frozen? ⟨g, o + j, none⟩ = false) :
    (Builtin.clear_ #[31] t #[.slice (some ⟨g, o, none⟩) 1 c]).run Tryz.prog w = .ok (.tuple #[]) (w.setCells g o (snc [⟨0, 0, 0⟩])) := by
  have hst := run_storeCells_cells (P := Tryz.prog) g o (snc [⟨0, 0, 0⟩]) 0 w (by simpa [snc, Sn.cells] using hc) (by simpa [snc, Sn.cells] using hf) (snc_one _)
  simp only [Nat.add_zero] at hst
  have hz : (zeroValue 142).run Tryz.prog w = .ok (.agg #[.int .u64 0, .int .u64 0, .int .u64 0]) w := by kernel_rfl
  have hzc : (Builtin.zeroCells (Value.agg #[.int .u64 0, .int .u64 0, .int .u64 0]).cells 1).toList = snc [⟨0, 0, 0⟩] := by simp [Builtin.zeroCells, Value.cells, snc, Sn.cells, Array.range, Array.ofFn]; rfl
  simp [Builtin.clear_, run_underlying Tryz.underlying31, hz, hzc, hst]

theorem bkL_puts (last n : Nat) (Y V : List Sn) (i : Nat) : (bkL last n Y).take (2 + i * 3) ++ snc V ++ (bkL last n Y).drop (2 + i * 3 + (snc V).length) = bkL last n (Y.take i ++ V ++ Y.drop (i + V.length)) := by
  have e1 : (bkL last n Y).take (2 + i * 3) = .int .u64 (last : Nat) :: .int .i64 (n : Nat) :: snc (Y.take i) := by
    rw [snc_take, Nat.add_comm]; rfl
  have e2 : (bkL last n Y).drop (2 + i * 3 + (snc V).length) = snc (Y.drop (i + V.length)) := by
    rw [snc_drop, snc_length, show 2 + i * 3 + V.length * 3 = (i + V.length) * 3 + 1 + 1 by omega]; rfl
  rw [e1, e2]
  simp [bkL, snc_append]

theorem sizeS1 : ∀ w, (Go.sizeOf 142).run Tryz.prog w = .ok 3 w := fun _ => by kernel_rfl
theorem infoS1 : (Tryz.prog.info? 142).map (fun i => (i.zero, i.size, i.bytes)) = some (some (.agg #[.int .u64 0, .int .u64 0, .int .u64 0]), 3, 24) := by kernel_rfl
/-- What Delete leaves of the book's row. -/
def RowTo (w w' : World) (p last n m : Nat) (X' : List Sn) : Prop := (∃ Y', Whole w' p 170 (bkL last n Y').toArray ∧ Y'.take m = X' ∧ Y'.length = 16 ∧ ∀ y ∈ Y', y.fits) ∧ Frm [p] w w'

set_option maxRecDepth 100000 in
set_option maxHeartbeats 4000000 in
theorem delete_any {w : World} {B p last n i : Nat} {X Y : List Sn} (h : Bk w B p 170 last X Y) (hn : n = X.length) (hi : i < n) :
    Calls Tryz.prog 131 #[.slice (some ⟨p, 2, none⟩) n 16, .int .i64 (i : Nat), .int .i64 ((i : Int) + 1)] w fun e w' => e = .returned (.slice (some ⟨p, 2, none⟩) (n - 1) 16) ∧ RowTo w w' p last n (n - 1) (closeS X i) := by
  obtain ⟨i0, hi0, _, hz1, _⟩ := info_parts infoS1
  have HI := Lib.hid hi0; clear hi0
  have HZ1 := Lib.hid hz1; clear hz1
  have hn16 : n ≤ 16 := by rw [hn]; exact h.few
  obtain ⟨n2, hn2⟩ : ∃ n2, n2 = n - (i + 1) := ⟨_, rfl⟩
  obtain ⟨n1, hn1⟩ : ∃ n1, n1 = i + n2 := ⟨_, rfl⟩
  have hn1' : n1 + 1 = n := by omega
  have hlenY := h.len
  obtain ⟨V, hV⟩ : ∃ V, V = X.drop (i + 1) := ⟨_, rfl⟩
  have hVl : V.length = n2 := by rw [hV, List.length_drop, ← hn, hn2]
  obtain ⟨A, hA, hsrc⟩ : ∃ A : Addr, cut3 (some ⟨p, 2, none⟩) 16 (i + 1) = some A ∧ Hid (∀ z, Frm [] w z → ∀ t u, (snc V)[t]? = some u → z.cell? (A.add t) = some u) := by
    have hsl := (h.sl (F := []) (by simp)).drop (cap := 16) h.few (i + 1)
    rw [← hV] at hsl
    have hne : ∃ A, cut3 (some ⟨p, 2, none⟩) 16 (i + 1) = some A := by unfold cut3; split <;> exact ⟨_, rfl⟩
    obtain ⟨A, hA⟩ := hne
    refine ⟨A, hA, fun z hz t u hu => ?_⟩
    rw [hA] at hsl
    have h2 := (hsl.keep (F' := []) hz (by simp) (by simp)).vals
    rcases h2 with h3 | ⟨b, off, h3, hc⟩
    · rw [h3] at hu; simp at hu
    · cases h3
      rw [addr_add]
      exact hc t u hu
  obtain ⟨v0, hcut0⟩ : ∃ v0, ∀ w, (Instr.slice 31 (.slice (some ⟨p, 2, none⟩) n 16) (some (.int .i64 (i : Nat))) (some (.int .i64 ((i : Int) + 1))) (some (.int .i64 (n : Nat)))).run Tryz.prog w = .ok v0 w := by
    have ht' : Tryz.prog.underlying 31 = some (.slice (Tryz.prog.elem 31)) := by kernel_rfl
    have he : Tryz.prog.elem 31 = 142 := by kernel_rfl
    refine ⟨sliced (some ⟨p, 2, none⟩) ((i : Int).toNat) (((i : Int) + 1).toNat) ((n : Int).toNat) 3, fun w => ?_⟩
    rw [run_slice_lhm w _ _ _ _ ht' .i64 .i64 .i64 _ _ _ (by omega) (by omega) (by omega) (by omega), he, sizeS1]
    rfl
  have hcut1 := fun w => run_head3 (P := Tryz.prog) Tryz.underlying31 sizeS1 w (some ⟨p, 2, none⟩) n 16 i (by omega)
  have hcut2 := fun w => run_cut3 (P := Tryz.prog) Tryz.underlying31 sizeS1 w (some ⟨p, 2, none⟩) n 16 (i + 1) ((i : Int) + 1) (by omega) (by omega)
  rw [hA, ← hn2] at hcut2
  have hcut3 : ∀ w, (Instr.slice 31 (.slice (some ⟨p, 2, none⟩) n1 16) (some (.int .i64 (n1 : Nat))) (some (.int .i64 (n : Nat))) none).run Tryz.prog w = .ok (.slice (some ⟨p, 2 + n1 * 3, none⟩) 1 (16 - n1)) w := fun w => by
    have ht' : Tryz.prog.underlying 31 = some (.slice (Tryz.prog.elem 31)) := by kernel_rfl
    have he : Tryz.prog.elem 31 = 142 := by kernel_rfl
    rw [run_slice_lh w _ _ _ _ ht' .i64 .i64 _ _ (by omega) (by omega) (by omega), he, sizeS1]
    have e1 : n - n1 = 1 := by omega
    have e2 : ¬ 16 = n1 := by omega
    simp [Result.andThen, sliced, e1, e2, addr_add]
  -- the world behind the append
  obtain ⟨Y1, hY1⟩ : ∃ Y1, Y1 = Y.take i ++ V ++ Y.drop (i + V.length) := ⟨_, rfl⟩
  have hY1l : Y1.length = 16 := by rw [hY1]; simp; omega
  have hY1f : ∀ y ∈ Y1, y.fits := by
    intro y hy
    rw [hY1] at hy
    rcases List.mem_append.1 hy with hy | hy
    · rcases List.mem_append.1 hy with hy | hy
      · exact h.fits y (List.mem_of_mem_take hy)
      · rw [hV] at hy; exact h.fitsX y (List.mem_of_mem_drop hy)
    · exact h.fits y (List.mem_of_mem_drop hy)
  have hY1t : Y1.take n1 = closeS X i := by
    have e : (Y.take i ++ V).length = n1 := by simp; omega
    rw [hY1, List.take_append_of_le_length (by omega), List.take_of_length_le (by omega), hV]
    unfold closeS
    congr 1
    conv => rhs; rw [← h.pre]
    rw [List.take_take, Nat.min_eq_left (by omega)]
  have hw1 := Whole.puts (snc V) (2 + i * 3) (w := w.drew) (cs := bkL last n Y) (by have := h.book; rw [← hn] at this; exact this) (by rw [snc_length, bkL_length]; omega)
  rw [bkL_puts, ← hY1] at hw1
  obtain ⟨W1, hW1⟩ : ∃ W1, W1 = w.drew.setCells p (2 + i * 3) (snc V) := ⟨_, rfl⟩
  rw [← hW1] at hw1
  obtain ⟨hw1, hf1⟩ := hw1
  -- the world behind the clear
  have hw2 := Whole.puts (snc [⟨0, 0, 0⟩]) (2 + n1 * 3) (w := W1) (cs := bkL last n Y1) hw1 (by rw [snc_length, bkL_length, hY1l]; simp; omega)
  rw [bkL_puts] at hw2
  have hcl : ∀ ty, (Builtin.clear_ #[31] ty #[.slice (some ⟨p, 2 + n1 * 3, none⟩) 1 (16 - n1)]).run Tryz.prog W1 = .ok (.tuple #[]) (W1.setCells p (2 + n1 * 3) (snc [⟨0, 0, 0⟩])) := fun ty => run_clear3 W1 p (2 + n1 * 3) (16 - n1) ty
    (fun j hj => by rw [hw1.cell, List.getElem?_toArray, Nat.add_assoc, bkL_row, List.getElem?_eq_getElem (by rw [snc_length, hY1l]; omega)]; rfl) (fun j _ => hw1.free _)
  obtain ⟨W2, hW2⟩ : ∃ W2, W2 = W1.setCells p (2 + n1 * 3) (snc [⟨0, 0, 0⟩]) := ⟨_, rfl⟩
  rw [← hW2] at hw2 hcl
  obtain ⟨hw2, hf2⟩ := hw2
  have HEND : Hid (RowTo w W2 p last n n1 (closeS X i)) := Lib.hid ⟨⟨_, hw2, by
      rw [List.append_assoc, List.take_append_of_le_length (by simp; omega), List.take_take, Nat.min_self, hY1t], by simp; omega, fun y hy => by
      rcases List.mem_append.1 hy with hy | hy
      · rcases List.mem_append.1 hy with hy | hy
        · exact hY1f y (List.mem_of_mem_take hy)
        · simp at hy; subst hy; exact ⟨by decide, by decide, by decide⟩
      · exact hY1f y (List.mem_of_mem_drop hy)⟩, (((Frm.refl [p] w).drew).trans hf1 (fun x hx => hx) (fun x hx => .inl hx)).trans hf2 (fun x hx => hx) (fun x hx => .inl hx)⟩
  have s1 : Hid ((snc V).length = n2 * 3) := Lib.hid (by rw [snc_length, hVl])
  have s2 : Hid (∀ u ∈ snc V, u.oneCell' = true) := Lib.hid (snc_one V)
  have s3 : Hid (∀ t, t < (snc V).length → (w.drew.cell? ⟨p, 2 + i * 3 + t, none⟩).isSome = true ∧ w.drew.frozen? ⟨p, 2 + i * 3 + t, none⟩ = false) := Lib.hid (fun t ht => by
    refine ⟨?_, h.book.free _⟩
    show (w.cell? _).isSome = true
    rw [Nat.add_assoc, h.cells, List.getElem?_eq_getElem (by rw [snc_length] at ht ⊢; omega)]; rfl)
  have hW : Hid (w.drew.setCells p (2 + i * 3) (snc V) = W1) := Lib.hid hW1.symm
  have hne : ((i : Int) == (i : Int) + 1) = false := by rw [beq_eq_false_iff_ne]; omega
  have e9 : n - 1 = n1 := by omega
  have hroom : i + n2 ≤ 16 := by omega
  have HN1 : Hid (i + n2 = n1) := Lib.hid hn1.symm
  obtain ⟨n3, hn3⟩ : ∃ n3, n3 = 16 - (i + 1) := ⟨_, rfl⟩
  rw [← hn3] at hcut2
  rw [e9]
  clear hn1 hn2 h hn hVl hV hA hY1 hY1l hY1f hY1t hW1 hw1 hf1 hW2 hw2 hf2 hlenY hi hn3 e9 hn1'
  go_enter Tryz.func131, Tryz.ntmps131
  go_wp2
  go_region_law (refine step_append_room rfl (.tmp 22) (.tmp 25) 31 rfl 142 i0 3 Tryz.underlying31 HI.out HZ1.out p 2 i 16 (by simp [Act.eval, Act.put]) A n2 n3 (snc V) (by simp [Act.eval, Act.put]) s1.out (hsrc.out _ (Frm.refl [] w).drew) s2.out hroom s3.out ?_; rw [hW.out, HN1.out])
  all_goals
    go_wp2
    go_ret
    exact ⟨rfl, HEND.out⟩

/-- What a call that answers an error's number leaves. -/
def BkEnd1 (w : World) (B p : Nat) (last' : Nat) (X' : List Sn) (v : Value) (e : Ending) (w' : World) : Prop := e = .returned v ∧ BkTo w w' B p last' X'

set_option maxRecDepth 100000 in
set_option maxHeartbeats 4000000 in
theorem close_any {w : World} {B p last : Nat} {X Y : List Sn} (id : Nat) (h : Bk w B p 170 last X Y) :
    Calls Tryz.prog 100 #[.pointer (some ⟨p, 0, none⟩), .int .u64 (id : Nat)] w (BkEnd1 w B p last (closeL X id) (.int .i64 (closeC X id : Nat))) := by
  have hFI := Lib.hid (bkfind_any id h)
  have hsrt := closeL_srt (id := id) h.srt
  unfold closeL closeC
  unfold closeL at hsrt
  by_cases hin : atS X id < X.length
  · rw [if_pos hin, if_pos hin]
    rw [if_pos hin] at hsrt
    obtain ⟨n, hn⟩ : ∃ n, n = X.length := ⟨_, rfl⟩
    have hn16 : n ≤ 16 := by rw [hn]; exact h.few
    have HIN := Lib.hid hin
    obtain ⟨i, hi⟩ : ∃ i, i = atS X id := ⟨_, rfl⟩
    have hin2 : i < n := by rw [hn, hi]; exact hin
    have HSE := Lib.hid (fun (z : World) (hz : Frm [] w z) => sessions_any (h.keep hz (by simp)))
    have HDE := Lib.hid (fun (z : World) (hz : Frm [] w z) => delete_any (h.keep hz (by simp)) hn hin2)
    rw [← hn] at HSE
    rw [← hi] at hsrt ⊢
    have HSRT := Lib.hid hsrt
    have HI := Lib.hid hi
    have hsi : IntKind.i64.wrap ((i : Int) + 1) = (i : Int) + 1 := IntWalk.i64_in _ (by omega)
    have HH := Lib.hid h
    have HL : Hid ((closeS X i).length = n - 1) := Lib.hid (by unfold closeS; rw [List.length_append, List.length_take, List.length_drop, ← hn]; omega)
    clear h hin hi hn hsrt
    go_enter Tryz.func100, Tryz.ntmps100
    go_wp2_with fail
    (with_reducible refine hFI.out.mono ?_)
    rintro e w1 ⟨v, rfl, hv, hf1⟩
    obtain rfl := finds_some HIN.out hv
    rw [← HI.out]
    have HF1 := Lib.hid hf1
    clear hf1 hv hFI HIN
    go_wp2_with fail
    (with_reducible refine (HSE.out _ HF1.out).mono ?_)
    rintro e w2 ⟨rfl, hf2⟩
    have HF2 := Lib.hid (HF1.out.trans hf2 (U := []) (by simp) (by simp))
    clear hf2
    go_wp2_with fail
    (with_reducible refine (HDE.out _ HF2.out).mono ?_)
    rintro e w3 ⟨rfl, ⟨Y3, hb3, hp3, hl3, hf3⟩, hfr3⟩
    have c1 := hb3.cell 1
    have f1 := hb3.free 1
    simp [bkL] at c1
    have hput := hb3.put 1 (.int .i64 ((n - 1 : Nat) : Nat))
    have hbk : Bk (w3.setCell ⟨p, 1, none⟩ (.int .i64 ((n - 1 : Nat) : Nat))) B p 170 last (closeS X i) Y3 :=
      ⟨by rw [HL.out]; simpa [bkL] using hput, by rw [HL.out]; exact hp3, hl3, hf3, HH.out.hp, HH.out.lt, HSRT.out⟩
    have hfin : Frm [p] w (w3.setCell ⟨p, 1, none⟩ (.int .i64 ((n - 1 : Nat) : Nat))) := ((HF2.out.weak (by simp)).trans hfr3 (fun x hx => hx) (fun x hx => .inl hx)).setCell (.inl (by simp)) _
    obtain ⟨m, hm⟩ : ∃ m, m = n - 1 := ⟨_, rfl⟩
    rw [← hm] at hbk hfin ⊢
    have HE : Hid (BkTo w (w3.setCell ⟨p, 1, none⟩ (.int .i64 (m : Nat))) B p last (closeS X i)) := Lib.hid ⟨⟨Y3, hbk⟩, hfin⟩
    clear hbk hfin hput hp3 hl3 hf3 hfr3 hm hb3
    go_wp2
    go_ret
    exact ⟨rfl, HE.out⟩
  · rw [if_neg hin, if_neg hin]
    have HSAME : Hid (∀ z, Frm [] w z → BkTo w z B p last X) := Lib.hid (fun z hz => ⟨⟨Y, h.keep hz (by simp)⟩, hz.weak (by simp)⟩)
    have HIN := Lib.hid hin
    clear h hin hsrt
    go_enter Tryz.func100, Tryz.ntmps100
    go_wp2_with fail
    (with_reducible refine hFI.out.mono ?_)
    rintro e w1 ⟨v, rfl, hv, hf1⟩
    obtain ⟨i, rfl⟩ := finds_none HIN.out hv
    have HF1 := Lib.hid hf1
    clear hf1 hv
    go_wp2
    go_ret
    exact ⟨rfl, HSAME.out _ HF1.out⟩
end Go.Proofs.YtcbpppdmkhpkkaaGreat
/- Contracts of slices.Clone over sessions, and of All. -/
namespace Go.Proofs.YtcbpppdmkhpkkaaGreat
open Go.RowKit

set_option maxHeartbeats 1000000 in
theorem cloneS_any (x : Addr) (n cap : Nat) (X : List Sn) (w : World) (h : SL w [] (some x) X) (hn : n = X.length) (hfit : n ≤ 100000) :
    Calls Tryz.prog 91 #[.slice (some x) n cap] w fun e w' => ∃ a2 cap2, e = .returned (.slice a2 n cap2) ∧ SOwn w' w.heap.size 142 [] a2 cap2 X ∧ Frm [] w w' := by
  have hq := fun (w : World) (a : Option Addr) (n c n' c' : Nat) => Lib.run_eql_slice_nil (P := Tryz.prog) w 31 142 a n c n' c' Tryz.underlying31
  obtain ⟨i0, hi, hz0, hz1, hz2⟩ := info_parts infoS1
  have HL := Lib.hid h; clear h
  have HN := Lib.hid hn; clear hn
  have HI := Lib.hid hi; clear hi
  have HZ0 := Lib.hid hz0; clear hz0
  have HZ1 := Lib.hid hz1; clear hz1
  have HZ2 := Lib.hid hz2; clear hz2
  have HLX : Hid ((snc X).length = n * 3) := Lib.hid (by rw [snc_length, HN.out])
  have hfit1 : 0 + n ≤ 1000000000 := by omega
  have HLIT : Hid (SOwn (w.alloc (.cells #[] 142)) w.heap.size 142 [] (some ⟨w.heap.size, 0, none⟩) 0 []) := Lib.hid ⟨World.ownsRow_lit w #[] 0 (Nat.le_refl _) (by unfold maxLen; omega) rfl, by simp, by simp⟩
  go_enter Tryz.func91, Tryz.ntmps91
  go_wp2_with (at_builtin; refine wpList_appS (by rfl) (.tmp 5) (.tmp 6) 31 rfl w.heap.size 142 i0 (.agg #[.int .u64 0, .int .u64 0, .int .u64 0]) 3 24 Tryz.underlying31 HI.out HZ0.out rfl (by decide) HZ1.out HZ2.out (by decide) (.slice (some ⟨w.heap.size, 0, none⟩) 0 0) 0 _ rfl HLIT.out.own _ n cap _ rfl (HL.out.vals.keep ((Frm.refl [] w).alloc _) (by simp)) HLX.out (snc_one _) (fun h => by cases h) hfit1 (by simp) ?_)
  intro a2 c2 w2 happ
  have g3 := HLIT.out.app (X := []) rfl HL.out.fits HN.out (by simp) happ
  have hf2 : Frm [] w w2 := ((Frm.refl [] w).alloc _).grown happ.grown (fun k hk => .inr (by cases hk; exact Nat.le_refl _))
  have ho := g3.1
  rw [List.nil_append] at ho
  have HO := Lib.hid ho
  have HF := Lib.hid hf2
  clear happ g3 hf2 ho
  go_wp2
  go_ret
  exact ⟨a2, c2, rfl, HO.out, HF.out⟩

set_option maxRecDepth 100000 in
set_option maxHeartbeats 2000000 in
theorem all_any {w : World} {B p last : Nat} {X Y : List Sn} (h : Bk w B p 170 last X Y) (n : Nat) (hn : n = X.length) :
    Calls Tryz.prog 58 #[.pointer (some ⟨p, 0, none⟩)] w fun e w' => ∃ a2 cap2, e = .returned (.tuple #[.int .u64 (last : Nat), .slice a2 n cap2]) ∧ SOwn w' w.heap.size 142 [] a2 cap2 X ∧ Frm [] w w' := by
  have c0 := h.c0
  have hn16 : n ≤ 16 := by rw [hn]; exact h.few
  have HSE := Lib.hid (fun (z : World) (hz : Frm [] w z) => sessions_any (h.keep hz (by simp)))
  have HCL := Lib.hid (fun (z : World) (hz : Frm [] w z) => cloneS_any ⟨p, 2, none⟩ n 16 X z ((h.keep hz (by simp)).sl (by simp)) hn (by omega))
  rw [← hn] at HSE
  have C0 := Lib.hid (fun (z : World) (hz : Frm [] w z) => (h.keep hz (by simp)).c0)
  clear h hn
  go_enter Tryz.func58, Tryz.ntmps58
  go_wp2
  have f00 : Frm [] w w.drew := (Frm.refl [] w).drew
  go_region_with (first
    | (go_at_call 92; (with_reducible refine (HSE.out _ f00).mono ?_); rintro e w1 ⟨rfl, hf1⟩; have T1 : Frm [] w w1 := f00.trans hf1 (U := []) (by simp) (by simp); clear hf1; have c1 := C0.out _ T1)
    | (go_at_call 91; (with_reducible refine (HCL.out _ T1).mono ?_); rintro e w2 ⟨a2, c2, rfl, ho2, hf2⟩; have T2 : Frm [] w w2 := T1.trans hf2 (U := []) (by simp) (by simp); have O2 : Hid (SOwn w2 w1.heap.size 142 [] a2 c2 X) := Lib.hid ho2; have S1 : Hid (w.heap.size ≤ w1.heap.size) := Lib.hid T1.size; clear ho2 hf2; have c2' := C0.out _ T2))
  all_goals
    go_wp2
    go_ret2
    refine ⟨a2, c2, rfl, ⟨⟨O2.out.own.1, ?_⟩, O2.out.fits, O2.out.away⟩, T2⟩
    rcases O2.out.own.2 with h | ⟨g, cp, cur, hv, hb, r⟩
    · exact .inl h
    · exact .inr ⟨g, cp, cur, hv, Nat.le_trans S1.out hb, r⟩
end Go.Proofs.YtcbpppdmkhpkkaaGreat
/- Contracts of the program's right and New. -/
namespace Go.Proofs.YtcbpppdmkhpkkaaGreat
open Go.RowKit

def RightTo (last : Nat) (L : List Sn) (k : Nat) : Prop := ∀ i, i < k → CondS last L i
theorem RightTo.next {last : Nat} {L : List Sn} {k : Nat} (h : RightTo last L k) (hk : CondS last L k) : RightTo last L (k + 1) := fun i hi => by
  rcases Nat.lt_or_eq_of_le (Nat.le_of_lt_succ hi) with h3 | rfl
  · exact h i h3
  · exact hk
def aheadS (L : List Sn) (k : Nat) : Nat := if k = 0 then 0 else (L.getD (k - 1) default).id
theorem condS_iff {last : Nat} {L : List Sn} {k : Nat} : CondS last L k ↔ ¬ (L.getD k default).id ≤ aheadS L k ∧ (L.getD k default).id ≤ last ∧ lastsS (L.getD k default).life := by
  unfold CondS aheadS lastsS
  by_cases h : k = 0
  · subst h; simp; omega
  · rw [if_neg h]
    have : 0 < k := by omega
    constructor
    · rintro ⟨h0, h1, h2, h3, h4⟩; have := h4 this; exact ⟨by omega, h1, h2, h3⟩
    · rintro ⟨h0, h1, h2, h3⟩; exact ⟨by omega, h1, h2, h3, fun _ => by omega⟩

set_option maxRecDepth 100000 in
set_option maxHeartbeats 4000000 in
theorem rightp_any {w : World} {a : Option Addr} {n cap last : Nat} {L : List Sn} (h : SL w [] a L) (hn : n = L.length) (hsz : n < 4611686018427387904) :
    Calls Tryz.prog 89 #[.int .u64 (last : Nat), .slice a n cap] w fun e w' => e = .returned (.bool (decide (RightS last L))) ∧ Frm [] w w' := by
  by_cases h16 : n ≤ 16
  · have HN := Lib.hid hn; clear hn
    have H := Lib.hid h; clear h
    have hg16 : ¬ (16 : Int) < (n : Int) := by omega
    go_enter Tryz.func89, Tryz.ntmps89
    go_wp2
    go_loopw [5, 13] (fun s5 s13 wr => ∃ k : Nat, k ≤ n ∧ s13 = .int .i64 k ∧ s5 = .int .u64 (aheadS L k : Nat) ∧ Hid (RightTo last L k) ∧ Hid (Frm [] w wr)) (fun _ s13 _ => n - (intOf s13).toNat)
    case atStart => exact ⟨0, Nat.zero_le _, rfl, rfl, fun t ht => absurd ht (Nat.not_lt_zero _), Lib.hid (Frm.refl _ _)⟩
    case round =>
      obtain ⟨k, hk, rfl, rfl, HI, HF⟩ := hrel
      by_cases hlt : k < n
      · have hsl := H.out.keep (F' := []) HF.out (by simp) (by simp)
        obtain ⟨b, off, rfl, p0, p1, p2, _⟩ := hsl.at (i := k) (by have := HN.out; omega)
        obtain ⟨x, hx⟩ : ∃ x, x = L.getD k default := ⟨_, rfl⟩
        have HCI : Hid (CondS last L k ↔ ¬ x.id ≤ aheadS L k ∧ x.id ≤ last ∧ lastsS x.life) := Lib.hid (by rw [hx]; exact condS_iff)
        have hnx : aheadS L (k + 1) = x.id := by unfold aheadS; rw [if_neg (by omega), hx]; rfl
        rw [← hx] at p0 p1 p2
        obtain ⟨ah, hah⟩ : ∃ ah, ah = aheadS L k := ⟨_, rfl⟩
        rw [← hah] at HCI ⊢
        have HNX := Lib.hid hnx
        have hLA := Lib.hid (fun w => lasts_any (w := w) x.life)
        have NO : Hid (¬ CondS last L k → decide (RightS last L) = false) := fun hc => decide_eq_false (fun hr => hc (hr.2 k (by have := HN.out; omega)))
        obtain ⟨i, en, li⟩ := x
        simp only at p0 p1 p2 HCI hLA HNX
        clear hx hnx hah hsl
        by_cases h1 : i ≤ ah
        · have d1 : decide (i ≤ ah) = true := decide_eq_true (by omega)
          have hno := NO.out (fun hc => (HCI.out.1 hc).1 h1)
          have HNO := Lib.hid hno
          clear hno hLA
          go_wp2
          go_ret
          exact ⟨by rw [HNO.out]; rfl, by repeat (first | exact HF.out | apply Frm.alloc)⟩
        · have d1 : decide (i ≤ ah) = false := decide_eq_false (by omega)
          by_cases h2 : i ≤ last
          · have d2 : decide (last < i) = false := decide_eq_false (by omega)
            by_cases h3 : lastsS li
            · have hLA2 := hLA
              rw [show decide (lastsS li) = true from decide_eq_true h3] at hLA2
              have HI2 : Hid (RightTo last L (k + 1)) := HI.out.next (HCI.out.2 ⟨h1, h2, h3⟩)
              clear h1 h2 h3 hLA
              go_wp2_with ((with_reducible refine (hLA2.out _).mono ?_); rintro e w' ⟨rfl, rfl⟩)
              go_roundw
              case rel => exact ⟨k + 1, by omega, by go_num, by rw [HNX.out], HI2, Lib.hid (by repeat (first | exact HF.out | apply Frm.alloc))⟩
              case measure => simp [intOf]; omega
            · have hLA2 := hLA
              rw [show decide (lastsS li) = false from decide_eq_false h3] at hLA2
              have hno := NO.out (fun hc => h3 (HCI.out.1 hc).2.2)
              have HNO := Lib.hid hno
              clear hno h1 h2 h3 hLA
              go_wp2_with ((with_reducible refine (hLA2.out _).mono ?_); rintro e w' ⟨rfl, rfl⟩)
              go_ret
              exact ⟨by rw [HNO.out]; rfl, by repeat (first | exact HF.out | apply Frm.alloc)⟩
          · have d2 : decide (last < i) = true := decide_eq_true (by omega)
            have hno := NO.out (fun hc => h2 (HCI.out.1 hc).2.1)
            have HNO := Lib.hid hno
            clear hno hLA h1 h2
            go_wp2
            go_ret
            exact ⟨by rw [HNO.out]; rfl, by repeat (first | exact HF.out | apply Frm.alloc)⟩
      · obtain rfl : k = n := by omega
        have HY : Hid (decide (RightS last L) = true) := decide_eq_true ⟨by rw [← HN.out]; exact h16, fun i hi => HI.out i (by rw [HN.out]; exact hi)⟩
        go_wp2
        go_ret
        exact ⟨by rw [HY.out]; rfl, HF.out⟩
  · have HNO : Hid (decide (RightS last L) = false) := decide_eq_false (fun hr => h16 (by rw [hn]; exact hr.1))
    clear h hn
    have hg16 : (16 : Int) < (n : Int) := by omega
    go_enter Tryz.func89, Tryz.ntmps89
    go_wp2
    go_ret
    exact ⟨by rw [HNO.out]; rfl, Frm.refl _ _⟩

/-- An empty book that was just made. -/
theorem Bk.made (w : World) (last : Nat) (hl : last < 18446744073709551616) : Bk (w.alloc (.cells #[.int .u64 (last : Nat), .int .i64 0, .int .u64 0, .int .u64 0, .int .u64 0, .int .u64 0, .int .u64 0, .int .u64 0, .int .u64 0, .int .u64 0, .int .u64 0, .int .u64 0, .int .u64 0, .int .u64 0, .int .u64 0, .int .u64 0, .int .u64 0, .int .u64 0, .int .u64 0, .int .u64 0, .int .u64 0, .int .u64 0, .int .u64 0, .int .u64 0, .int .u64 0, .int .u64 0, .int .u64 0, .int .u64 0, .int .u64 0, .int .u64 0, .int .u64 0, .int .u64 0, .int .u64 0, .int .u64 0, .int .u64 0, .int .u64 0, .int .u64 0, .int .u64 0, .int .u64 0, .int .u64 0, .int .u64 0, .int .u64 0, .int .u64 0, .int .u64 0, .int .u64 0, .int .u64 0, .int .u64 0, .int .u64 0, .int .u64 0, .int .u64 0] 170)) w.heap.size w.heap.size 170 last [] (List.replicate 16 ⟨0, 0, 0⟩) := by
  refine ⟨Whole.made _ _ _, rfl, by simp, fun y hy => ?_, Nat.le_refl _, hl, SrtS.nil _⟩
  rw [List.eq_of_mem_replicate hy]
  exact ⟨by decide, by decide, by decide⟩
/-- What New answers. -/
def BkNewEnd (w : World) (last : Nat) (L : List Sn) (e : Ending) (w' : World) : Prop :=
  (RightS last L ∧ ∃ p Y, e = .returned (.tuple #[.pointer (some ⟨p, 0, none⟩), .bool true]) ∧ Bk w' w.heap.size p 170 last L Y ∧ Frm [] w w') ∨
  (¬ RightS last L ∧ e = .returned (.tuple #[.pointer none, .bool false]) ∧ Frm [] w w')

set_option maxRecDepth 100000 in
set_option maxHeartbeats 4000000 in
theorem bknew_any {w : World} {a : Option Addr} {n cap last : Nat} {L : List Sn} (h : SL w [] a L) (hn : n = L.length) (hsz : n < 4611686018427387904) (hl : last < 18446744073709551616) :
    Calls Tryz.prog 57 #[.int .u64 (last : Nat), .slice a n cap] w (BkNewEnd w last L) := by
  have hR := rightp_any (cap := cap) (last := last) h hn hsz
  by_cases hr : RightS last L
  · rw [show decide (RightS last L) = true from decide_eq_true hr] at hR
    have HR := Lib.hid hR; clear hR
    have HN := Lib.hid hn; clear hn
    have H := Lib.hid h; clear h
    have HRR := Lib.hid hr; clear hr
    have HL := Lib.hid hl
    go_enter Tryz.func57, Tryz.ntmps57
    go_wp2_with fail
    (with_reducible refine HR.out.mono ?_)
    rintro e w1 ⟨rfl, hf1⟩
    have HF1 := Lib.hid hf1; clear hf1 HR
    go_wp2
    have hbk := Bk.made w1 last HL.out
    have hf2 : Frm [] w (w1.alloc (.cells #[.int .u64 (last : Nat), .int .i64 0, .int .u64 0, .int .u64 0, .int .u64 0, .int .u64 0, .int .u64 0, .int .u64 0, .int .u64 0, .int .u64 0, .int .u64 0, .int .u64 0, .int .u64 0, .int .u64 0, .int .u64 0, .int .u64 0, .int .u64 0, .int .u64 0, .int .u64 0, .int .u64 0, .int .u64 0, .int .u64 0, .int .u64 0, .int .u64 0, .int .u64 0, .int .u64 0, .int .u64 0, .int .u64 0, .int .u64 0, .int .u64 0, .int .u64 0, .int .u64 0, .int .u64 0, .int .u64 0, .int .u64 0, .int .u64 0, .int .u64 0, .int .u64 0, .int .u64 0, .int .u64 0, .int .u64 0, .int .u64 0, .int .u64 0, .int .u64 0, .int .u64 0, .int .u64 0, .int .u64 0, .int .u64 0, .int .u64 0, .int .u64 0] 170)) := HF1.out.alloc _
    obtain ⟨p, hp⟩ : ∃ p, p = w1.heap.size := ⟨_, rfl⟩
    obtain ⟨w2, hw2⟩ : ∃ w2, w2 = w1.alloc (.cells #[.int .u64 (last : Nat), .int .i64 0, .int .u64 0, .int .u64 0, .int .u64 0, .int .u64 0, .int .u64 0, .int .u64 0, .int .u64 0, .int .u64 0, .int .u64 0, .int .u64 0, .int .u64 0, .int .u64 0, .int .u64 0, .int .u64 0, .int .u64 0, .int .u64 0, .int .u64 0, .int .u64 0, .int .u64 0, .int .u64 0, .int .u64 0, .int .u64 0, .int .u64 0, .int .u64 0, .int .u64 0, .int .u64 0, .int .u64 0, .int .u64 0, .int .u64 0, .int .u64 0, .int .u64 0, .int .u64 0, .int .u64 0, .int .u64 0, .int .u64 0, .int .u64 0, .int .u64 0, .int .u64 0, .int .u64 0, .int .u64 0, .int .u64 0, .int .u64 0, .int .u64 0, .int .u64 0, .int .u64 0, .int .u64 0, .int .u64 0, .int .u64 0] 170) := ⟨_, rfl⟩
    rw [← hw2] at hbk hf2 ⊢
    rw [← hp] at hbk ⊢
    have hwp : w.heap.size ≤ p := by rw [hp]; exact HF1.out.size
    have HB : Hid (Bk w2 w.heap.size p 170 last [] (List.replicate 16 ⟨0, 0, 0⟩)) := Lib.hid { hbk with hp := hwp }
    have HF2 := Lib.hid hf2
    have HWP := Lib.hid hwp
    clear hw2 hp hbk hf2 HF1
    go_loopw [18] (fun s18 wr => ∃ (k : Nat) (Y : List Sn), k ≤ n ∧ s18 = .int .i64 k ∧ Hid (Bk wr w.heap.size p 170 last (L.take k) Y) ∧ Hid (Frm [] w wr)) (fun s18 _ => n - (intOf s18).toNat)
    case atStart => exact ⟨0, _, Nat.zero_le _, rfl, HB, HF2⟩
    case round =>
      obtain ⟨k, Y, hk, rfl, HBK, HF⟩ := hrel
      by_cases hlt : k < n
      · have hsl := H.out.keep (F' := []) HF.out (by simp) (by simp)
        obtain ⟨b, off, rfl, p0, p1, p2, hfit⟩ := hsl.at (i := k) (by have := HN.out; omega)
        have hkl : k < L.length := by have := HN.out; omega
        obtain ⟨x, hx⟩ : ∃ x, x = L.getD k default := ⟨_, rfl⟩
        have htk : L.take (k + 1) = L.take k ++ [x] := by rw [List.take_succ_eq_append_getElem hkl, hx, getS hkl]
        rw [← hx] at p0 p1 p2 hfit
        have HTK := Lib.hid htk
        have hlen : (L.take k).length < 16 := by have := HRR.out.1; rw [List.length_take]; omega
        have hst : SrtS last (L.take k ++ [x]) := by rw [← htk]; exact HRR.out.srt.sub (List.take_sublist _ _)
        have HAD := Lib.hid (fun (z : World) (hz : Frm [] wr z) => add_any (w := z) x (HBK.out.keep hz (by simp)) hfit hlen hst)
        obtain ⟨i, en, li⟩ := x
        simp only at p0 p1 p2
        unfold Sn.val at HAD
        simp only at HAD
        clear hsl hx htk hlen hst hkl
        go_wp2_with fail
        (with_reducible refine (HAD.out _ (by repeat (first | exact Frm.refl _ _ | apply Frm.alloc))).mono ?_)
        rintro e w5 ⟨rfl, ⟨Y5, hb5⟩, hf5⟩
        have HB5 := Lib.hid hb5
        have HF5 : Hid (Frm [] w w5) := Lib.hid ((HF.out.alloc _).trans hf5 (U := []) (by simp) (fun y hy => .inr (by simp at hy; subst hy; exact HWP.out)))
        clear hb5 hf5
        go_wp2
        go_roundw
        case rel => exact ⟨k + 1, Y5, by omega, by go_num, Lib.hid (by rw [HTK.out]; exact HB5.out), HF5⟩
        case measure => simp [intOf]; omega
      · obtain rfl : k = n := by omega
        have HE : Hid (Bk wr w.heap.size p 170 last L Y) := Lib.hid (by have h1 := HBK.out; rw [HN.out, List.take_length] at h1; exact h1)
        go_wp2
        go_ret2
        exact .inl ⟨HRR.out, p, Y, rfl, HE.out, HF.out⟩
  · rw [show decide (RightS last L) = false from decide_eq_false hr] at hR
    have HR := Lib.hid hR; clear hR
    have HRR := Lib.hid hr; clear hr hn h
    go_enter Tryz.func57, Tryz.ntmps57
    go_wp2_with fail
    (with_reducible refine HR.out.mono ?_)
    rintro e w1 ⟨rfl, hf1⟩
    have HF1 := Lib.hid hf1; clear hf1 HR
    go_wp2
    go_ret2
    exact .inr ⟨HRR.out, rfl, HF1.out⟩
end Go.Proofs.YtcbpppdmkhpkkaaGreat
/- Contracts of the document's book of sessions: sum, Open, Renew, Close, Expire, SameSessions, BookOf. -/
namespace Go.Proofs.YtcbpppdmkhpkkaaGreat
open Go.RowKit

theorem Tryz.info142 : (Tryz.prog.info? 142).map (fun i => (i.zero, i.size, i.bytes)) = some (some (.agg #[.int .u64 0, .int .u64 0, .int .u64 0]), 3, 24) := by kernel_rfl
theorem sizeS : ∀ w, (Go.sizeOf 142).run Tryz.prog w = .ok 3 w := fun _ => by kernel_rfl

set_option maxHeartbeats 1000000 in
theorem usum_any {w : World} (a b : Nat) (ha : a < 18446744073709551616) (hb : b < 18446744073709551616) :
    Calls Tryz.prog 71 #[.int .u64 (a : Nat), .int .u64 (b : Nat)] w fun e w' => e = .returned (.int .u64 (sumU a b : Nat)) ∧ w = w' := by
  unfold sumU
  by_cases h : a + b < 18446744073709551616
  · rw [if_pos h]
    obtain ⟨s, hs⟩ : ∃ s, s = a + b := ⟨_, rfl⟩
    rw [← hs]
    have hw0 : ((a : Int) + (b : Int)) % 18446744073709551616 = (s : Int) := by omega
    have hw : IntKind.u64.wrap ((a : Int) + (b : Int)) = (s : Int) := by rw [← hw0]; simp [IntKind.wrap, IntKind.bits, IntKind.signed]
    have hlt : ¬ s < a := by omega
    clear hs h ha hb
    go_enter Tryz.func71, Tryz.ntmps71
    go_wp2
    go_ret
    exact ⟨rfl, rfl⟩
  · rw [if_neg h]
    obtain ⟨s, hs⟩ : ∃ s, s = a + b - 18446744073709551616 := ⟨_, rfl⟩
    have hw0 : ((a : Int) + (b : Int)) % 18446744073709551616 = (s : Int) := by omega
    have hw : IntKind.u64.wrap ((a : Int) + (b : Int)) = (s : Int) := by rw [← hw0]; simp [IntKind.wrap, IntKind.bits, IntKind.signed]
    have hlt : s < a := by omega
    clear hs h ha hb
    go_enter Tryz.func71, Tryz.ntmps71
    go_wp2
    go_ret
    exact ⟨rfl, rfl⟩

/-- What a change of the book leaves. -/
def RbTo (w w' : World) (B p : Nat) (F : List Nat) (last' : Nat) (X' : List Sn) : Prop := ∃ a' c', Rb w' B p F a' c' last' X' ∧ Frm [p] w w' ∧ ∀ g ∈ blk a', w.heap.size ≤ g
/-- A list of sessions is stored in the book. -/
theorem Rb.store {w w1 : World} {B p : Nat} {F : List Nat} {a a' : Option Addr} {cap c' last : Nat} {X Y : List Sn} (h : Rb w B p F a cap last X) (hf : Frm [] w w1) (hr : SOwn w1 w.heap.size 142 (p :: F) a' c' Y) (hl : Y.length ≤ 16) :
    RbTo w (w1.setCell ⟨p, 1, none⟩ (.slice a' Y.length c')) B p F last Y := by
  have ht := (hf.whole h.book (by simp)).put 1 (.slice a' Y.length c')
  have hs : Frm [p] w1 (w1.setCell ⟨p, 1, none⟩ (.slice a' Y.length c')) := (Frm.refl _ _).setCell (.inl (by simp)) _
  have hr2 := hr.keep (F' := p :: F) hs (fun x hx => .inl (by simp at hx; simp [hx])) (fun x hx => .inl hx)
  refine ⟨a', c', ⟨by simpa using ht, ⟨?_, hr2.fits, hr2.away⟩, h.hp, h.out, hl, h.lt⟩, (hf.weak (by simp)).trans hs (fun x hx => hx) (fun x hx => .inl hx), fun g hg => (hr.blk_lt g hg).1⟩
  refine ⟨hr2.own.1, ?_⟩
  rcases hr2.own.2 with h2 | ⟨g, cp, cur, hv, hg, r⟩
  · exact .inl h2
  · exact .inr ⟨g, cp, cur, hv, by have := h.hp; have := h.book.lt; omega, r⟩
theorem Rb.keep {w w' : World} {B p : Nat} {F S : List Nat} {a : Option Addr} {cap last : Nat} {X : List Sn} (h : Rb w B p F a cap last X) (hf : Frm S w w') (hp : p ∉ S) (hS : ∀ x ∈ S, x ∈ p :: F ∨ w.heap.size ≤ x) : Rb w' B p F a cap last X :=
  { h with book := hf.whole h.book hp, row := h.row.keep hf hS (fun _ hx => .inl hx) }

/-- An empty literal, appended to. -/
theorem frm_lit3 {w z w3 : World} {base m : Nat} {e : TypeId} {xs us : List Value} {a3 : Option Addr} {c3 : Nat} (hz : Frm [] w z) (h : AppS (z.alloc (.cells #[] e)) w3 base e 3 (.slice (some ⟨z.heap.size, 0, none⟩) 0 0) 0 m xs us a3 c3) : Frm [] w w3 :=
  (hz.alloc _).grown h.grown (fun k hk => .inr (by simp [Value.ownBlock] at hk; have := hz.size; omega))
theorem frm_app3 {w z w3 : World} {base n m : Nat} {e : TypeId} {v : Value} {xs us : List Value} {a3 : Option Addr} {c3 : Nat} (hz : Frm [] w z) (h : AppS z w3 base e 3 v n m xs us a3 c3) (hb : ∀ g, v.ownBlock = some g → w.heap.size ≤ g) : Frm [] w w3 :=
  hz.grown h.grown (fun k hk => .inr (hb k hk))

/-- What a call that answers an error's number leaves. -/
def RbEnd (w : World) (B p : Nat) (F : List Nat) (last' : Nat) (X' : List Sn) (v : Value) (e : Ending) (w' : World) : Prop := e = .returned v ∧ ∃ a' c', Rb w' B p F a' c' last' X' ∧ Frm [p] w w'
end Go.Proofs.YtcbpppdmkhpkkaaGreat
/- Contracts of SameSessions at equal lists, of sameIds at equal lists. -/
namespace Go.Proofs.YtcbpppdmkhpkkaaGreat
open Go.RowKit

/-- Numbers as values. -/
def uvs (L : List Nat) : List Value := L.map (fun n => .int .u64 (n : Nat))
end Go.Proofs.YtcbpppdmkhpkkaaGreat
/- Contract of the document's Expire. -/
namespace Go.Proofs.YtcbpppdmkhpkkaaGreat
open Go.RowKit

theorem Tryz.info27 : (Tryz.prog.info? 27).map (fun i => (i.zero, i.size, i.bytes)) = some (some (.int .u64 0), 1, 8) := by kernel_rfl
/-- Rows of different kinds lie apart. -/
theorem own_apart {w : World} {b1 b2 s1 s2 n1 n2 : Nat} {e1 e2 : TypeId} {v1 v2 : Value} {x1 x2 : List Value} (h1 : w.ownsRow b1 e1 s1 v1 n1 x1) (h2 : w.ownsRow b2 e2 s2 v2 n2 x2) (hne : e1 ≠ e2) : ∀ g, v1.ownBlock = some g → v2.ownBlock ≠ some g := by
  intro g hg
  rcases h1.2 with ⟨rfl, _⟩ | ⟨g', cap, cur, rfl, _, hh, _⟩
  · simp [Value.ownBlock] at hg
  · have : g' = g := by simpa [Value.ownBlock] using hg
    subst this
    exact own_ne h2 (t := e1) (cs := cur) hh (Ne.symm hne)
theorem SOwn.keepN {w w' : World} {base cap : Nat} {e : TypeId} {F S : List Nat} {a : Option Addr} {X : List Sn} (h : SOwn w base e F a cap X) (hf : Frm S w w') (hn : ∀ g ∈ blk a, g ∉ S) : SOwn w' base e F a cap X :=
  ⟨hf.own h.own (fun g hg => hn g (ownBlk3.1 hg)), h.fits, h.away⟩
theorem uvs_one (L : List Nat) : ∀ u ∈ uvs L, u.oneCell' = true := by
  intro u hu
  obtain ⟨n, _, rfl⟩ := List.mem_map.1 hu
  rfl
theorem uvs_append (L M : List Nat) : uvs (L ++ M) = uvs L ++ uvs M := by simp [uvs]
theorem goneS_y {now : Nat} {X : List Sn} {k : Nat} (h : k < X.length) (he : (X.getD k default).ends ≤ now) : goneS now (X.take (k + 1)) = goneS now (X.take k) ++ [(X.getD k default).id] ∧ leftS now (X.take (k + 1)) = leftS now (X.take k) := by
  rw [goneS_take h, leftS_take h, if_pos he, if_pos he, List.append_nil]; exact ⟨rfl, rfl⟩
theorem goneS_n {now : Nat} {X : List Sn} {k : Nat} (h : k < X.length) (he : ¬ (X.getD k default).ends ≤ now) : goneS now (X.take (k + 1)) = goneS now (X.take k) ∧ leftS now (X.take (k + 1)) = leftS now (X.take k) ++ [X.getD k default] := by
  rw [goneS_take h, leftS_take h, if_neg he, if_neg he, List.append_nil]; exact ⟨rfl, rfl⟩

/-- The loop of the document's Expire. -/
def RxRel (w : World) (p : Nat) (F : List Nat) (now : Nat) (X : List Sn) (s5 s6 s7 : Value) (wr : World) : Prop :=
  ∃ (k : Nat) (ga la : Option Addr) (gc lc gn ln : Nat), k ≤ X.length ∧ s7 = .int .i64 (k : Nat) ∧ s5 = .slice ga gn gc ∧ s6 = .slice la ln lc ∧ Hid (gn = (goneS now (X.take k)).length) ∧ Hid (ln = (leftS now (X.take k)).length) ∧
    Hid (wr.ownsRow w.heap.size 27 1 (.slice ga gn gc) gn (uvs (goneS now (X.take k)))) ∧ Hid (SOwn wr w.heap.size 142 (p :: F) la lc (leftS now (X.take k))) ∧ Hid (Frm [] w wr)
/-- What Expire answers and leaves. -/
def RxEnd (w : World) (B p : Nat) (F : List Nat) (last' : Nat) (X' : List Sn) (G : List Nat) (e : Ending) (w' : World) : Prop :=
  ∃ ga gc, e = .returned (.slice ga G.length gc) ∧ (∀ q, ga = some q → w.heap.size ≤ q.block) ∧ ValsAt w' ga (uvs G) ∧ (∃ a' c', Rb w' B p F a' c' last' X' ∧ Frm [p] w w')

end Go.Proofs.YtcbpppdmkhpkkaaGreat
