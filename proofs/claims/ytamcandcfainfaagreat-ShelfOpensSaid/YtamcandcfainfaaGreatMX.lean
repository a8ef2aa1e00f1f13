/- Contracts and mathematics that this proof stands on, beside those of the parts before. -/
import Derived.Test.YtamcandcfainfaaGreatME
import Derived.Maps.AppendAt
import Derived.Deep.RegionLaw
namespace Go.Proofs.YtamcandcfainfaaGreat
open Go.RowKit

theorem ref_unframe_short (a : Option Addr) (n cap : Nat) (w : World) (h8 : n < 8) :
    Calls Tryz.prog 38 #[.slice a n cap] w (UnfErr w 4) := by
  go_enter Tryz.func38, Tryz.ntmps38
  go_wp2
  go_ret3
  exact ⟨rfl, Frm.refl _ _⟩

set_option maxHeartbeats 1000000 in
theorem ref_unframe_long (a : Option Addr) (n cap : Nat) (l : List Nat) (w : World) (hl : Bytes w a l) (hn : n = l.length) (hnc : n ≤ cap) (hnil : a = none → cap = 0) (z s : Nat) (hz : val (l.take 4) = z) (hs : val ((l.drop 4).take 4) = s) (h8 : 8 ≤ n) (hz4 : 4096 < z) :
    Calls Tryz.prog 38 #[.slice a n cap] w (UnfErr w 3) := by
  subst hn
  have hz32 : z < 4294967296 := by
    have := val_lt (l.take 4) (fun c hc => hl.1 c (List.mem_of_mem_take hc))
    rw [List.length_take, Nat.min_eq_left (by omega), hz] at this
    simpa using this
  have hs32 : s < 4294967296 := by
    have := val_lt ((l.drop 4).take 4) (fun c hc => hl.1 c (List.mem_of_mem_drop (List.mem_of_mem_take hc)))
    rw [List.length_take, Nat.min_eq_left (by simp; omega), hs] at this
    simpa using this
  have hll := hl.2.1
  have hf0 : Frm [] w (w.alloc (.cells #[.slice a l.length cap, .int .i64 0] 120)) := (Frm.refl _ _).alloc _
  have h0 : RR (w.alloc (.cells #[.slice a l.length cap, .int .i64 0] 120)) w.heap.size l a cap :=
    ⟨Whole.made _ _ _, hf0.bytes hl (by simp), hnc, hnil, fun hne x hx => by have := bytes_lt hl hne x hx; omega⟩
  have h1 := h0.next 4
  have h2 := h1.next 4
  rw [List.drop_drop] at h2
  have hf2 : Frm [] w (((w.alloc (.cells #[.slice a l.length cap, .int .i64 0] 120)).setCell ⟨w.heap.size, 0, none⟩ (.slice (cutAt a cap 4) (l.length - 4) (cap - 4))).setCell ⟨w.heap.size, 0, none⟩ (.slice (cutAt (cutAt a cap 4) (cap - 4) 4) ((l.drop 4).length - 4) (cap - 4 - 4))) :=
    (hf0.setCell (.inr (by simp)) _).setCell (.inr (by simp)) _
  have H0 := Lib.hid (ref_number_ok 4 h0 (by omega) (by omega))
  have H1 := Lib.hid (ref_number_ok 4 h1 (by simp; omega) (by omega))
  unfold Numbered at H0 H1
  rw [hz] at H0
  rw [hs] at H1
  have H2 := Lib.hid h2
  have HF2 := Lib.hid hf2
  have H8 := Lib.hid hl.1
  clear h0 h1 h2 hf0 hf2 hl hz hs hnil
  go_enter Tryz.func38, Tryz.ntmps38
  go_wp2_with fail
  refine H0.out.mono ?_
  rintro e w1 ⟨rfl, hw1⟩
  rw [← hw1] at H1 H2 HF2
  clear hw1
  go_wp2_with fail
  refine H1.out.mono ?_
  rintro e w2 ⟨rfl, hw2⟩
  rw [← hw2] at H2 HF2
  clear hw2
  have k0 := H2.out.whole.cell 0
  simp only [List.length_drop] at k0
  obtain ⟨a2, ha2⟩ : ∃ a2, a2 = cutAt (cutAt a cap 4) (cap - 4) 4 := ⟨_, rfl⟩
  obtain ⟨m, hm⟩ : ∃ m, m = l.length - (4 + 4) := ⟨_, rfl⟩
  obtain ⟨c2, hc2⟩ : ∃ c2, c2 = cap - 4 - 4 := ⟨_, rfl⟩
  have hb2 := H2.out.bytes
  have hle2 := H2.out.le
  have hnil2 := H2.out.nil
  rw [← ha2] at hb2 hnil2
  rw [← hc2] at hle2 hnil2
  rw [← ha2, ← hc2, ← hm] at k0
  simp at k0
  have HB2 := Lib.hid hb2; clear hb2
  have HM : Hid (m = (l.drop 8).length) := by show m = _; simp [hm]
  have HLE := Lib.hid hle2; clear hle2
  have hmle : m ≤ c2 := by have h := HLE.out; have h2 := HM.out; simp only [List.length_drop] at h h2; omega
  have hme : m = l.length - 8 := by omega
  have hm63 : m ≤ 9223372036854775807 := by omega
  have HNIL := Lib.hid hnil2; clear hnil2
  clear H0 H1 ha2 hc2 hm H2
  clear hme
  go_wp2
  go_ret3
  exact ⟨rfl, HF2.out⟩

set_option maxHeartbeats 1000000 in
theorem ref_unframe_less (a : Option Addr) (n cap : Nat) (l : List Nat) (w : World) (hl : Bytes w a l) (hn : n = l.length) (hnc : n ≤ cap) (hnil : a = none → cap = 0) (z s : Nat) (hz : val (l.take 4) = z) (hs : val ((l.drop 4).take 4) = s) (h8 : 8 ≤ n) (hz4 : z ≤ 4096) (hzn : n < 8 + z) :
    Calls Tryz.prog 38 #[.slice a n cap] w (UnfErr w 4) := by
  subst hn
  have hz32 : z < 4294967296 := by
    have := val_lt (l.take 4) (fun c hc => hl.1 c (List.mem_of_mem_take hc))
    rw [List.length_take, Nat.min_eq_left (by omega), hz] at this
    simpa using this
  have hs32 : s < 4294967296 := by
    have := val_lt ((l.drop 4).take 4) (fun c hc => hl.1 c (List.mem_of_mem_drop (List.mem_of_mem_take hc)))
    rw [List.length_take, Nat.min_eq_left (by simp; omega), hs] at this
    simpa using this
  have hll := hl.2.1
  have hf0 : Frm [] w (w.alloc (.cells #[.slice a l.length cap, .int .i64 0] 120)) := (Frm.refl _ _).alloc _
  have h0 : RR (w.alloc (.cells #[.slice a l.length cap, .int .i64 0] 120)) w.heap.size l a cap :=
    ⟨Whole.made _ _ _, hf0.bytes hl (by simp), hnc, hnil, fun hne x hx => by have := bytes_lt hl hne x hx; omega⟩
  have h1 := h0.next 4
  have h2 := h1.next 4
  rw [List.drop_drop] at h2
  have hf2 : Frm [] w (((w.alloc (.cells #[.slice a l.length cap, .int .i64 0] 120)).setCell ⟨w.heap.size, 0, none⟩ (.slice (cutAt a cap 4) (l.length - 4) (cap - 4))).setCell ⟨w.heap.size, 0, none⟩ (.slice (cutAt (cutAt a cap 4) (cap - 4) 4) ((l.drop 4).length - 4) (cap - 4 - 4))) :=
    (hf0.setCell (.inr (by simp)) _).setCell (.inr (by simp)) _
  have H0 := Lib.hid (ref_number_ok 4 h0 (by omega) (by omega))
  have H1 := Lib.hid (ref_number_ok 4 h1 (by simp; omega) (by omega))
  unfold Numbered at H0 H1
  rw [hz] at H0
  rw [hs] at H1
  have H2 := Lib.hid h2
  have HF2 := Lib.hid hf2
  have H8 := Lib.hid hl.1
  clear h0 h1 h2 hf0 hf2 hl hz hs hnil
  go_enter Tryz.func38, Tryz.ntmps38
  go_wp2_with fail
  refine H0.out.mono ?_
  rintro e w1 ⟨rfl, hw1⟩
  rw [← hw1] at H1 H2 HF2
  clear hw1
  go_wp2_with fail
  refine H1.out.mono ?_
  rintro e w2 ⟨rfl, hw2⟩
  rw [← hw2] at H2 HF2
  clear hw2
  have k0 := H2.out.whole.cell 0
  simp only [List.length_drop] at k0
  obtain ⟨a2, ha2⟩ : ∃ a2, a2 = cutAt (cutAt a cap 4) (cap - 4) 4 := ⟨_, rfl⟩
  obtain ⟨m, hm⟩ : ∃ m, m = l.length - (4 + 4) := ⟨_, rfl⟩
  obtain ⟨c2, hc2⟩ : ∃ c2, c2 = cap - 4 - 4 := ⟨_, rfl⟩
  have hb2 := H2.out.bytes
  have hle2 := H2.out.le
  have hnil2 := H2.out.nil
  rw [← ha2] at hb2 hnil2
  rw [← hc2] at hle2 hnil2
  rw [← ha2, ← hc2, ← hm] at k0
  simp at k0
  have HB2 := Lib.hid hb2; clear hb2
  have HM : Hid (m = (l.drop 8).length) := by show m = _; simp [hm]
  have HLE := Lib.hid hle2; clear hle2
  have hmle : m ≤ c2 := by have h := HLE.out; have h2 := HM.out; simp only [List.length_drop] at h h2; omega
  have hme : m = l.length - 8 := by omega
  have hm63 : m ≤ 9223372036854775807 := by omega
  have HNIL := Lib.hid hnil2; clear hnil2
  clear H0 H1 ha2 hc2 hm H2
  have hmz : m < z := by omega
  clear hme
  go_wp2
  go_ret3
  exact ⟨rfl, HF2.out⟩

set_option maxHeartbeats 1000000 in
theorem ref_unframe_sum (a : Option Addr) (n cap : Nat) (l : List Nat) (w : World) (hl : Bytes w a l) (hn : n = l.length) (hnc : n ≤ cap) (hnil : a = none → cap = 0) (z s : Nat) (hz : val (l.take 4) = z) (hs : val ((l.drop 4).take 4) = s) (h8 : 8 ≤ n) (hz4 : z ≤ 4096) (hzn : 8 + z ≤ n) (q : Nat) (hq : sumN ((l.drop 8).take z) = q) (hne : q ≠ s) :
    Calls Tryz.prog 38 #[.slice a n cap] w (UnfErr w 7) := by
  have HSUM := Lib.hid hq
  have hq32 : q < 4294967296 := by rw [← hq]; exact sumN_lt (fun c hc => hl.1 c (List.mem_of_mem_drop (List.mem_of_mem_take hc)))
  clear hq
  subst hn
  have hz32 : z < 4294967296 := by
    have := val_lt (l.take 4) (fun c hc => hl.1 c (List.mem_of_mem_take hc))
    rw [List.length_take, Nat.min_eq_left (by omega), hz] at this
    simpa using this
  have hs32 : s < 4294967296 := by
    have := val_lt ((l.drop 4).take 4) (fun c hc => hl.1 c (List.mem_of_mem_drop (List.mem_of_mem_take hc)))
    rw [List.length_take, Nat.min_eq_left (by simp; omega), hs] at this
    simpa using this
  have hll := hl.2.1
  have hf0 : Frm [] w (w.alloc (.cells #[.slice a l.length cap, .int .i64 0] 120)) := (Frm.refl _ _).alloc _
  have h0 : RR (w.alloc (.cells #[.slice a l.length cap, .int .i64 0] 120)) w.heap.size l a cap :=
    ⟨Whole.made _ _ _, hf0.bytes hl (by simp), hnc, hnil, fun hne x hx => by have := bytes_lt hl hne x hx; omega⟩
  have h1 := h0.next 4
  have h2 := h1.next 4
  rw [List.drop_drop] at h2
  have hf2 : Frm [] w (((w.alloc (.cells #[.slice a l.length cap, .int .i64 0] 120)).setCell ⟨w.heap.size, 0, none⟩ (.slice (cutAt a cap 4) (l.length - 4) (cap - 4))).setCell ⟨w.heap.size, 0, none⟩ (.slice (cutAt (cutAt a cap 4) (cap - 4) 4) ((l.drop 4).length - 4) (cap - 4 - 4))) :=
    (hf0.setCell (.inr (by simp)) _).setCell (.inr (by simp)) _
  have H0 := Lib.hid (ref_number_ok 4 h0 (by omega) (by omega))
  have H1 := Lib.hid (ref_number_ok 4 h1 (by simp; omega) (by omega))
  unfold Numbered at H0 H1
  rw [hz] at H0
  rw [hs] at H1
  have H2 := Lib.hid h2
  have HF2 := Lib.hid hf2
  have H8 := Lib.hid hl.1
  clear h0 h1 h2 hf0 hf2 hl hz hs hnil
  go_enter Tryz.func38, Tryz.ntmps38
  go_wp2_with fail
  refine H0.out.mono ?_
  rintro e w1 ⟨rfl, hw1⟩
  rw [← hw1] at H1 H2 HF2
  clear hw1
  go_wp2_with fail
  refine H1.out.mono ?_
  rintro e w2 ⟨rfl, hw2⟩
  rw [← hw2] at H2 HF2
  clear hw2
  have k0 := H2.out.whole.cell 0
  simp only [List.length_drop] at k0
  obtain ⟨a2, ha2⟩ : ∃ a2, a2 = cutAt (cutAt a cap 4) (cap - 4) 4 := ⟨_, rfl⟩
  obtain ⟨m, hm⟩ : ∃ m, m = l.length - (4 + 4) := ⟨_, rfl⟩
  obtain ⟨c2, hc2⟩ : ∃ c2, c2 = cap - 4 - 4 := ⟨_, rfl⟩
  have hb2 := H2.out.bytes
  have hle2 := H2.out.le
  have hnil2 := H2.out.nil
  rw [← ha2] at hb2 hnil2
  rw [← hc2] at hle2 hnil2
  rw [← ha2, ← hc2, ← hm] at k0
  simp at k0
  have HB2 := Lib.hid hb2; clear hb2
  have HM : Hid (m = (l.drop 8).length) := by show m = _; simp [hm]
  have HLE := Lib.hid hle2; clear hle2
  have hmle : m ≤ c2 := by have h := HLE.out; have h2 := HM.out; simp only [List.length_drop] at h h2; omega
  have hme : m = l.length - 8 := by omega
  have hm63 : m ≤ 9223372036854775807 := by omega
  have HNIL := Lib.hid hnil2; clear hnil2
  clear H0 H1 ha2 hc2 hm H2
  have hmz : z ≤ m := by omega
  clear hme
  have HZL : Hid (z = ((l.drop 8).take z).length) := by show z = _; have h2 := HM.out; simp only [List.length_drop] at h2; simp; omega
  go_wp2_with fail
  refine (ref_sum_eq _ _ _ ((l.drop 8).take z) _ q HSUM.out (HB2.out.take z) HZL.out).mono ?_
  rintro e w' ⟨rfl, rfl⟩
  have hnb : ((q : Int) == (s : Int)) = false := by simp; omega
  have hnb2 : ((q : Int) != (s : Int)) = true := by simp; omega
  clear hne
  go_wp2
  go_ret3
  exact ⟨rfl, HF2.out⟩

end Go.Proofs.YtamcandcfainfaaGreat

namespace Go.Proofs.YtamcandcfainfaaGreat
open Go.RowKit

section
variable {P : Program} {w : World}
/-- The same where the operation is guarded, and wanted. -/
theorem wpList_appW {ops : Array Oper} {rest : List Oper} {o : Oper} {a : Act} {Q : Exit → Act → World → Prop} (hw : Region.wanted o (yielded ops a.tmps) = true) (s x : Operand) (t : TypeId)
    (ho : o.op = .call { callee := .builtin .append, args := #[s, x], argTypes := #[t, t] })
    (base : Nat) (e : TypeId) (i : TypeInfo) (z : Value) (by' : Nat) (ht : P.underlying t = some (.slice e)) (hi : P.info? e = some i) (hz : i.zero = some z) (hz1 : z.cells.size = 1)
    (hsize : i.size = 1) (hby : i.bytes = by') (hb24 : by' ≤ 100) (v : Value) (n : Nat) (xs : List Value) (hs : a.eval s = v) (hown : w.ownsRow base e 1 v n xs)
    (ad : Option Addr) (m c : Nat) (us : List Value) (hx : a.eval x = .slice ad m c) (hB : ValsAt w ad us) (hm : m = us.length) (hone : ∀ u ∈ us, u.oneCell' = true) (hnil : ad = none → c = 0)
    (hfit : n + m ≤ 1000000000) (hbase : base ≤ w.heap.size)
    (h : ∀ a' cap' w', AppV w w' base e v n m xs us a' cap' → wpList P ops Q rest (a.put o.dst (.slice a' (n + m) cap')) w') : wpList P ops Q (o :: rest) a w := by
  refine wpList_step fun K hK => ?_
  rw [if_pos hw]
  obtain ⟨a', cap', w', hr, h2⟩ := run_appV (P := P) base t o.type e i z by' ht hi hz hz1 hsize hby hb24 v n xs hown ad m c us hB hm hone hnil hfit hbase
  unfold Oper.wp execOp
  simp only [ho, resolve, invoke, builtin, Sem.run_bind, Sem.run_pure, Result.andThen_ok, List.map_toArray, List.map_cons, List.map_nil, hs, hx, hr]
  exact hK _ _ (h a' cap' w' h2)

end

theorem Ents.less' {w : World} {F F' : List Nat} {vs : List Value} {L : List (List Nat)} (h : Ents w F vs L) (hF : ∀ x ∈ F', x ∈ F ∨ w.heap.size ≤ x) : Ents w F' vs L := h.keep (S := []) (Frm.refl _ _) (by simp) hF
section
variable {w w' : World} {base : Nat} {e : TypeId} {F F' S : List Nat} {a : Option Addr} {cap : Nat} {L : List (List Nat)} {vs : List Value}
end
end Go.Proofs.YtamcandcfainfaaGreat

namespace Go.Proofs.YtamcandcfainfaaGreat
open Go.RowKit

theorem re_step {l L : List Nat} {M : List (List Nat)} {sz : Nat} (hL : L = l.drop sz) (h : uC L = 0) (h1 : recs l = M ++ recs L) (h2 : recN l = sz + recN L) (h3 : sz ≤ l.length) (h4 : M.length ≤ sz) :
    recs l = (M ++ [uX L]) ++ recs (l.drop (l.length - (uY L).length)) ∧ recN l = l.length - (uY L).length + recN (l.drop (l.length - (uY L).length)) ∧ sz < l.length - (uY L).length ∧ (M ++ [uX L]).length ≤ l.length - (uY L).length := by
  obtain ⟨s1, s2, s3, s4⟩ := bo_step hL h h1 h2 h3 h4
  have hlen : L.length = l.length - sz := by rw [hL, List.length_drop]
  have e : l.length - (uY L).length = sz + fN L := by
    have := (fN_ok h).1
    obtain ⟨k1, k2, k3, k4, k5⟩ := u_ok h
    omega
  rw [e]
  exact ⟨s1, s2, by have := (fN_ok h).1; omega, s4⟩

end Go.Proofs.YtamcandcfainfaaGreat

