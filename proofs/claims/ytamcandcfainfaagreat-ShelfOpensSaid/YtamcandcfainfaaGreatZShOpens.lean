/- ShelfOpens: the walk. Written by wip/mk-shopens.py. -/
import Derived.Test.YtamcandcfainfaaGreatMX
import Derived.Test.YtamcandcfainfaaGreatZShOps
import Derived.Test.YtamcandcfainfaaGreatZRdAdd
import Derived.Test.YtamcandcfainfaaGreatZJnRecC
import Derived.Test.YtamcandcfainfaaGreatZShFew
import Derived.Test.YtamcandcfainfaaGreatZRows2
import Derived.Test.YtamcandcfainfaaGreatZInIs
import Derived.Test.YtamcandcfainfaaGreatZOpLc
import Derived.Deep.LoopGhost
namespace Go.Proofs.YtamcandcfainfaaGreat
open Go.RowKit
set_option maxRecDepth 100000
theorem s9lcap_of {w : World} {a : Option Addr} {vs : List Value} {L : List (List Nat)} (hv : ValsAt w a vs) (h : ∀ i, i < L.length → ∃ ai ci, vs[i]? = some (.slice ai (L.getD i []).length ci) ∧ (L.getD i []).length ≤ ci) : LCap w a L := fun i hi => by
  obtain ⟨ai, ci, e1, e2⟩ := h i hi
  rcases hv with h0 | ⟨b, off, rfl, hc⟩
  · rw [h0] at e1; simp at e1
  · exact ⟨b, off, ai, ci, rfl, hc i _ e1, e2⟩
theorem s9of_lcap {w : World} {a : Option Addr} {vs : List Value} {L : List (List Nat)} (hv : ValsAt w a vs) (he : Ents w [] vs L) (hc : LCap w a L) : ∀ i, i < L.length → ∃ ai ci, vs[i]? = some (.slice ai (L.getD i []).length ci) ∧ (L.getD i []).length ≤ ci := fun i hi => by
  obtain ⟨ai, ci, e1, _⟩ := he.ent i hi
  obtain ⟨b, off, ai2, ci2, ha, k1, k2⟩ := hc i hi
  rcases hv with h0 | ⟨b3, off3, h3, hc3⟩
  · rw [h0] at e1; simp at e1
  · rw [ha] at h3
    simp only [Option.some.injEq, Addr.mk.injEq] at h3
    obtain ⟨rfl, rfl, _⟩ := h3
    have := hc3 i _ e1
    rw [k1] at this
    simp only [Option.some.injEq, Value.slice.injEq] at this
    exact ⟨ai, ci, e1, by rw [← this.2.2]; exact k2⟩
theorem s9join_caps {vs us : List Value} {L M : List (List Nat)} (hl : vs.length = L.length) (h : ∀ i, i < L.length → ∃ ai ci, vs[i]? = some (.slice ai (L.getD i []).length ci) ∧ (L.getD i []).length ≤ ci) (k : ∀ i, i < M.length → ∃ ai ci, us[i]? = some (.slice ai (M.getD i []).length ci) ∧ (M.getD i []).length ≤ ci) : ∀ i, i < (L ++ M).length → ∃ ai ci, (vs ++ us)[i]? = some (.slice ai ((L ++ M).getD i []).length ci) ∧ ((L ++ M).getD i []).length ≤ ci := fun i hi => by
  by_cases h1 : i < L.length
  · rw [show (L ++ M).getD i [] = L.getD i [] by simp [List.getD, List.getElem?_append, h1], List.getElem?_append_left (by omega)]
    exact h i h1
  · rw [List.length_append] at hi
    rw [show (L ++ M).getD i [] = M.getD (i - L.length) [] by simp [List.getD, List.getElem?_append, h1], List.getElem?_append_right (by omega), hl]
    exact k (i - L.length) (by omega)
theorem s9mo1 (x : Int) (U : Nat) (hU : x % 18446744073709551616 = (U : Int)) : IntKind.u64.wrap x = (U : Int) := by simp [IntKind.wrap, IntKind.bits, IntKind.signed]; omega
theorem s9mo2 (U nl kk : Nat) (hkk : kk = U % nl) : (U : Int).tmod (nl : Int) = (kk : Int) := by rw [hkk]; rfl
theorem s9mo3 (kk : Nat) (h : kk < 9223372036854775808) : wrap64 (kk : Int) = (kk : Int) := by unfold wrap64; omega
theorem s9mo4 (U nl kk : Nat) (hkk : kk = U / nl) : (U : Int).tdiv (nl : Int) = (kk : Int) := by rw [hkk]; rfl
theorem s9mo5 (nl : Nat) (h : nl < 9223372036854775808) : IntKind.u64.wrap (nl : Int) = (nl : Int) := by simp [IntKind.wrap, IntKind.bits, IntKind.signed]; omega
theorem s9mo6 (U nl V : Nat) (h : (U : Int).tdiv (nl : Int) = (V : Int)) (hU : U < 18446744073709551616) : IntKind.u64.wrap (V : Int) = (V : Int) := by
  have h1 : V = U / nl := by have h2 := s9mo4 U nl _ rfl; rw [h] at h2; exact Int.ofNat.inj h2
  have h3 : V ≤ U := by rw [h1]; exact Nat.div_le_self _ _
  simp [IntKind.wrap, IntKind.bits, IntKind.signed]; omega
theorem s9mo_a (x : Int) (nl : Nat) (h5 : 0 < nl) (hnl : nl ≤ 100) : ∃ U kk : Nat, U < 18446744073709551616 ∧ kk < nl ∧ IntKind.u64.wrap x = (U : Int) ∧ (U : Int).tmod (nl : Int) = (kk : Int) ∧ wrap64 (kk : Int) = (kk : Int) ∧ IntKind.u64.wrap (nl : Int) = (nl : Int) ∧ ((nl : Int) == 0) = false ∧ (kk : Int) < (nl : Int) := by
  have hk : (x % 18446744073709551616).toNat % nl < nl := Nat.mod_lt _ h5
  exact ⟨(x % 18446744073709551616).toNat, (x % 18446744073709551616).toNat % nl, by omega, hk, s9mo1 x _ (by omega), s9mo2 _ _ _ rfl, s9mo3 _ (by omega), s9mo5 nl (by omega), by rw [beq_eq_false_iff_ne]; omega, by omega⟩
theorem s9mo_b (U nl m : Nat) (hm1 : 1 ≤ m) (hm2 : m ≤ 2000100) : ∃ V jj : Nat, jj < m ∧ (U : Int).tdiv (nl : Int) = (V : Int) ∧ (V : Int).tmod (m : Int) = (jj : Int) ∧ IntKind.i64.wrap (jj : Int) = (jj : Int) ∧ IntKind.u64.wrap (m : Int) = (m : Int) ∧ ((m : Int) == 0) = false ∧ (jj : Int) < (m : Int) := by
  have hk : U / nl % m < m := Nat.mod_lt _ hm1
  exact ⟨U / nl, U / nl % m, hk, s9mo4 U nl _ rfl, s9mo2 _ _ _ rfl, IntWalk.i64_in _ (by omega), s9mo5 m (by omega), by rw [beq_eq_false_iff_ne]; omega, by omega⟩
theorem s9mo7 (z t : Nat) (hz : z < 256) (ht : t < 8) : bits BinOp.xor IntKind.u8 (z : Int) (IntKind.u8.wrap ((2 : Int) ^ t)) = ((z ^^^ 2 ^ t : Nat) : Int) ∧ z ^^^ 2 ^ t < 256 := by
  have h := flip_byte z t hz ht
  exact ⟨by rw [← h.1]; rfl, h.2⟩
/-- The disk's records: whole, some bytes each. -/
structure Rc9 (l : List Nat) (k : Nat) : Prop where
  h8 : ∀ c ∈ l, c < 256
  whole : recN l = l.length
  len : ∀ b ∈ recs l, 1 ≤ b.length ∧ b.length ≤ 400
  few : (recs l).length ≤ k
theorem Rc9.step {l b : List Nat} {k room : Nat} {o : Option Nat} (h : Rc9 l k) (hb8 : ∀ c ∈ b, c < 256) (h1 : 1 ≤ b.length) (h2 : b.length ≤ 400) : Rc9 (oL l room o b) (k + 1) := by
  have hs : Rc9 l (k + 1) := ⟨h.h8, h.whole, h.len, by have := h.few; omega⟩
  unfold oL jl
  split
  · split
    · have hm := recs_more h.h8 h.whole (show b.length ≤ 4096 by omega) hb8
      refine ⟨fun c hc => ?_, hm.2, fun y hy => ?_, by rw [hm.1, List.length_append]; have := h.few; simp; omega⟩
      · rcases List.mem_append.1 hc with h3 | h3
        · exact h.h8 c h3
        · exact fr_lt hb8 c h3
      · rw [hm.1] at hy
        rcases List.mem_append.1 hy with h3 | h3
        · exact h.len y h3
        · simp at h3; subst h3; exact ⟨h1, h2⟩
    · exact hs
  · exact hs
theorem rd_new (w : World) (B room : Nat) (hB : B ≤ w.heap.size) (hr : room ≤ 16777216) :
    Rd ((w.alloc (.cells #[.int .i64 (room : Nat), .int .i64 0, .slice none 0 0] 37)).alloc (.cells #[.slice none 0 0, .pointer (some ⟨w.heap.size, 0, none⟩)] 40)) B [] ([w.heap.size + 1] ++ [w.heap.size]) (w.heap.size + 1) w.heap.size nd0 [] room 0 := by
  obtain ⟨w1, hw1⟩ : ∃ w1, w1 = w.alloc (.cells #[.int .i64 (room : Nat), .int .i64 0, .slice none 0 0] 37) := ⟨_, rfl⟩
  have hs : w1.heap.size = w.heap.size + 1 := by rw [hw1]; simp
  have hR := Rf.zero w room hr B hB
  rw [← hw1] at hR ⊢
  have hW := Whole.made w1 40 #[.slice none 0 0, .pointer (some ⟨w.heap.size, 0, none⟩)]
  rw [hs] at hW
  have hf : Frm [] w1 (w1.alloc (.cells #[.slice none 0 0, .pointer (some ⟨w.heap.size, 0, none⟩)] 40)) := (Frm.refl _ _).alloc _
  refine ⟨none, 0, [], [w.heap.size], ⟨hW, World.ownsRow_nil _ _ _ _, by simp, List.Pairwise.nil, List.Pairwise.nil, fun g hg => ?_, Nat.le_refl _, by simp⟩, nodeOf_nil, hR.keep hf (by simp), by simp, by simp [rwB]⟩
  simp [rwB] at hg
  subst hg
  exact ⟨by simp, by omega⟩
theorem rd_doc {w : World} {B : Nat} {G W : List Nat} {q m : Nat} {S : Nd9} {l : List Nat} {room mm : Nat} (h : Rd w B G W q m S l room mm) : ∃ da dc, w.cell? ⟨q, 1, none⟩ = some (.pointer (some ⟨m, 0, none⟩)) ∧ w.cell? ⟨m, 2, none⟩ = some (.slice da l.length dc) ∧ Bytes w da l ∧ l.length ≤ dc ∧ (da = none → dc = 0) ∧ l.length ≤ room := by
  obtain ⟨La, Lc, R, Gd, hs, hn, ⟨hr, da, dc, hm, hh, hG⟩, ho, hW⟩ := h
  exact ⟨da, dc, hs.box.cell 1, hm.cell 2, hh.bytes hr.1, hh.cap_le.1, hh.none_cap, hr.2.2.2.1⟩
/-- What the law keeps of the records: each may be read. -/
structure Sl9 (wr : World) (base : Nat) (e : TypeId) (al : Option Addr) (nl cl : Nat) (vs : List Value) (L : List (List Nat)) : Prop where
  own : wr.ownsRow base e 1 (.slice al nl cl) nl vs
  ents : Ents wr (blk al) vs L
  len : nl = L.length
  cap : ∀ i, i < L.length → ∃ ai ci, vs[i]? = some (.slice ai (L.getD i []).length ci) ∧ (L.getD i []).length ≤ ci
  sz : ∀ i, i < L.length → 1 ≤ (L.getD i []).length ∧ (L.getD i []).length ≤ 400
theorem Sl9.keep {w w' : World} {base : Nat} {e : TypeId} {al : Option Addr} {nl cl : Nat} {vs : List Value} {L : List (List Nat)} (h : Sl9 w base e al nl cl vs L) (hf : Frm [] w w') : Sl9 w' base e al nl cl vs L :=
  ⟨hf.own h.own (by simp), h.ents.keep hf (by simp) (fun x hx => .inl hx), h.len, h.cap, h.sz⟩
/-- Another record in one's place. -/
theorem Sl9.set {w z : World} {base : Nat} {e : TypeId} {b : Nat} {nl cl kk g c : Nat} {vs : List Value} {L : List (List Nat)} {r : List Nat} (h : Sl9 w base e (some ⟨b, 0, none⟩) nl cl vs L) (hf : Frm [] w z) (hk : kk < nl) (hr : Bytes z (some ⟨g, 0, none⟩) r) (hc : r.length ≤ c) (hg : w.heap.size ≤ g) (h1 : 1 ≤ r.length) (h2 : r.length ≤ 400) :
    Sl9 (z.setCell ⟨b, kk, none⟩ (.slice (some ⟨g, 0, none⟩) r.length c)) base e (some ⟨b, 0, none⟩) nl cl (vs.set kk (.slice (some ⟨g, 0, none⟩) r.length c)) (L.set kk r) := by
  have hb : b < w.heap.size := (World.ownsRow.lt h.own b (by simp [Value.ownBlock])).2
  have ho := hf.own h.own (by simp)
  have hs : Frm [b] z (z.setCell ⟨b, kk, none⟩ (.slice (some ⟨g, 0, none⟩) r.length c)) := (Frm.refl _ _).setCell (.inl (by simp)) _
  have he := (h.ents.keep hf (by simp) (fun x hx => .inl hx)).keep (F' := blk (some ⟨b, 0, none⟩)) hs (fun x hx => .inl (by simpa using hx)) (fun x hx => .inl hx)
  have hr2 : Bytes (z.setCell ⟨b, kk, none⟩ (.slice (some ⟨g, 0, none⟩) r.length c)) (some ⟨g, 0, none⟩) r := hs.bytes' hr (fun _ x hx hm => by cases hx; simp at hm; omega)
  have hvl := he.len
  have hln := h.len
  have get : ∀ i, i < (L.set kk r).length → (i = kk ∧ (L.set kk r).getD i [] = r ∧ (vs.set kk (.slice (some ⟨g, 0, none⟩) r.length c))[i]? = some (.slice (some ⟨g, 0, none⟩) r.length c)) ∨ (i ≠ kk ∧ (L.set kk r).getD i [] = L.getD i [] ∧ (vs.set kk (.slice (some ⟨g, 0, none⟩) r.length c))[i]? = vs[i]?) := fun i hi => by
    rw [List.length_set] at hi
    by_cases hik : i = kk
    · subst hik
      exact .inl ⟨rfl, by simp [hi], by rw [List.getElem?_set_self (by omega)]⟩
    · exact .inr ⟨hik, by simp [Ne.symm hik], by rw [List.getElem?_set_ne (Ne.symm hik)]⟩
  refine ⟨by have := (ho.stored kk (.slice (some ⟨g, 0, none⟩) r.length c)).1; simpa using this, ⟨by simp [hvl], fun i hi => ?_⟩, by simp [hln], fun i hi => ?_, fun i hi => ?_⟩
  · rcases get i hi with ⟨rfl, e1, e2⟩ | ⟨_, e1, e2⟩
    · rw [e1, e2]
      exact ⟨_, c, rfl, hr2, fun _ x hx hm => by cases hx; simp at hm; omega, fun h => by cases h⟩
    · rw [e1, e2]
      exact he.ent i (by simpa using hi)
  · rcases get i hi with ⟨rfl, e1, e2⟩ | ⟨_, e1, e2⟩
    · rw [e1, e2]; exact ⟨_, c, rfl, hc⟩
    · rw [e1, e2]; exact h.cap i (by simpa using hi)
  · rcases get i hi with ⟨rfl, e1, e2⟩ | ⟨_, e1, e2⟩
    · rw [e1]; exact ⟨h1, h2⟩
    · rw [e1]; exact h.sz i (by simpa using hi)
theorem Sl9.lcap {w : World} {base : Nat} {e : TypeId} {al : Option Addr} {nl cl : Nat} {vs : List Value} {L : List (List Nat)} (h : Sl9 w base e al nl cl vs L) : LL w [] al L ∧ LCap w al L :=
  ⟨⟨vs, own_vals h.own, h.ents.less' (by simp), by simp⟩, s9lcap_of (own_vals h.own) h.cap⟩
def S1Rel (w : World) (q m n : Nat) (s33 : Value) (wr : World) : Prop :=
  ∃ (k : Nat) (W : List Nat) (S : Nd9) (l : List Nat), k ≤ n ∧ s33 = .int .i64 (k : Nat) ∧ Hid (Rd wr w.heap.size [] W q m S l 1048576 (k * 3)) ∧ Hid (Frm [] w wr) ∧ Hid (Rc9 l k)
def S2Rel (w : World) (al : Option Addr) (nl cl : Nat) (s14 : Value) (wr : World) : Prop :=
  ∃ (i : Nat) (vs : List Value) (L : List (List Nat)), i ≤ 3 ∧ s14 = .int .i64 (i : Nat) ∧ Hid (Sl9 wr w.heap.size 35 al nl cl vs L) ∧ Hid (Frm [] w wr)
set_option maxHeartbeats 16000000 in
theorem shelfOpens_walk (a0 : Option Addr) (n0 c0 : Nat) (R : List (List Nat)) (a1 : Option Addr) (n cap : Nat) (ts : List Sa) (a2 : Option Addr) (n2 c2 : Nat) (xs : List Int) (a3 : Option Addr) (n3 c3 : Nat) (bits : List Nat) (w : World)
    (hR : LIn w a0 c0 R ∧ LCap w a0 R) (en0 : n0 = R.length) (_f0 : n0 ≤ 9223372036854775807) (h : Sas w a1 ts) (hn : n = ts.length) (_hn63 : n ≤ 9223372036854775807) (hx : Is w a2 xs) (ex : n2 = xs.length) (_fx : n2 ≤ 9223372036854775807) (eb : n3 = bits.length) (hb : Bytes w a3 bits) (_g3 : n3 ≤ c3) (_k3 : a3 = none → c3 = 0) :
    Calls Tryz.prog 4 #[.slice a0 n0 c0, .slice a1 n cap, .slice a2 n2 c2, .slice a3 n3 c3] w fun e w' => e = .returned (.bool true) ∧ Below w.heap.size w w' := by
  obtain ⟨i0, hi, hz0, hz1, hz2⟩ := info_parts Tryz.info35
  have HI := Lib.hid hi; clear hi
  have HZ0 := Lib.hid hz0; clear hz0
  have HZ1 := Lib.hid hz1; clear hz1
  have HZ2 := Lib.hid hz2; clear hz2
  obtain ⟨u0, ui, uz0, uz1, uz2⟩ := info_parts Tryz.info5
  have UI := Lib.hid ui; clear ui
  have UZ0 := Lib.hid uz0; clear uz0
  have UZ1 := Lib.hid uz1; clear uz1
  have UZ2 := Lib.hid uz2; clear uz2
  have HAW := Lib.hid (awake9_any w)
  have HN := Lib.hid hn
  have H := Lib.hid h
  have HRR := Lib.hid hR
  have HN0 := Lib.hid en0
  have HXS := Lib.hid hx
  have HEX := Lib.hid ex
  have HBS := Lib.hid hb
  have HEB := Lib.hid eb
  have hn3 : n3 ≤ 9223372036854775807 := by rw [eb]; exact hb.2.1
  clear h hn hR en0 hx ex hb eb
  by_cases h20 : 20 < n0
  · have hd : decide ((20 : Int) < (n0 : Int)) = true := decide_eq_true (by omega)
    have hd2 : decide (20 < n0) = true := decide_eq_true h20
    clear h20
    go_enter Tryz.func4, Tryz.ntmps4
    go_wp2_with fail
    (with_reducible refine HAW.out.mono ?_)
    rintro e w1 ⟨rfl, hb1⟩
    go_wp2
    go_ret
    exact ⟨rfl, hb1⟩
  have hd : decide ((20 : Int) < (n0 : Int)) = false := decide_eq_false (by omega)
  have hd2 : decide (20 < n0) = false := decide_eq_false h20
  by_cases h40 : 40 < n
  · have hd3 : decide ((40 : Int) < (n : Int)) = true := decide_eq_true (by omega)
    have hd4 : decide (40 < n) = true := decide_eq_true h40
    clear h20 h40
    go_enter Tryz.func4, Tryz.ntmps4
    go_wp2_with fail
    (with_reducible refine HAW.out.mono ?_)
    rintro e w1 ⟨rfl, hb1⟩
    go_wp2
    go_ret
    exact ⟨rfl, hb1⟩
  have hd3 : decide ((40 : Int) < (n : Int)) = false := decide_eq_false (by omega)
  have hd4 : decide (40 < n) = false := decide_eq_false h40
  have H20 := Lib.hid h20
  have H40 := Lib.hid h40
  clear h20 h40
  go_enter Tryz.func4, Tryz.ntmps4
  go_wp2_with fail
  (with_reducible refine HAW.out.mono ?_)
  rintro e w1 ⟨rfl, hb1⟩
  have hf1 : Frm [] w w1 := Frm.ofBelow hb1
  have HTM := Lib.hid (rd_new w1 w.heap.size 1048576 hf1.size (by omega))
  rw [show ((1048576 : Nat) : Int) = 1048576 from rfl] at HTM
  obtain ⟨w2, hw2⟩ : ∃ w2, w2 = (w1.alloc (.cells #[.int .i64 1048576, .int .i64 0, .slice none 0 0] 37)).alloc (.cells #[.slice none 0 0, .pointer (some ⟨w1.heap.size, 0, none⟩)] 40) := ⟨_, rfl⟩
  have hf2 : Frm [] w w2 := by rw [hw2]; exact (hf1.alloc _).alloc _
  obtain ⟨m, hm⟩ : ∃ m, m = w1.heap.size := ⟨_, rfl⟩
  obtain ⟨q, hq⟩ : ∃ q, q = w1.heap.size + 1 := ⟨_, rfl⟩
  rw [← hw2, ← hq, ← hm] at HTM
  have HR0 : Hid (S1Rel w q m n (.int .i64 (0 : Nat)) w2) := Lib.hid ⟨0, _, nd0, [], Nat.zero_le _, rfl, HTM, Lib.hid hf2, Lib.hid ⟨by simp, by rw [recs_nil.2]; rfl, by rw [recs_nil.1]; simp, by rw [recs_nil.1]; simp⟩⟩
  rw [← hm] at hw2
  have HW2 := Lib.hid hw2
  have HMM := Lib.hid hm
  have HQ := Lib.hid hq
  clear hb1 HAW hw2 hq hm hf1 hf2 HTM
  go_wp2
  rw [← HQ.out, ← HMM.out, ← HW2.out]
  clear hd hd2 hd3 hd4 HW2 HQ HMM
  go_loopw [33] (fun s33 wr => S1Rel w q m n s33 wr) (fun s33 _ => n - (intOf s33).toNat)
  case atStart => exact HR0.out
  case round =>
    clear HR0
    obtain ⟨j, W, S, l, hj, rfl, HRD, HF, HRC⟩ := hrel
    by_cases hlt : j < n
    · obtain ⟨b, off, rfl, hin⟩ := H.out (by have := HN.out; omega)
      have hi := hin j (by have := HN.out; omega)
      obtain ⟨t, ht⟩ : ∃ t, t = ts.getD j default := ⟨_, rfl⟩
      rw [← ht] at hi
      have HOK := Lib.hid hi.ok
      obtain ⟨p0, p1, p2, p3, p4, p5, p6, hok⟩ := hi.keep HF.out
      clear hin ht hi
      obtain ⟨tk, tl, te, tr, tm, s0, da, dc, dd⟩ := t
      simp only at p0 p1 p2 p3 p4 p5 p6
      obtain ⟨dn, hdn⟩ : ∃ dn, dn = dd.length := ⟨_, rfl⟩
      rw [← hdn] at p6
      by_cases h256 : 256 < dn
      · have hgu : decide ((256 : Int) < (dn : Int)) = true := decide_eq_true (by omega)
        clear hok hdn
        go_wp2
        go_ret
        exact ⟨rfl, (HF.out.alloc _).below (by simp) (Nat.le_refl _)⟩
      · have hgu : decide ((256 : Int) < (dn : Int)) = false := decide_eq_false (by omega)
        obtain ⟨w4, hw4⟩ : ∃ w4, w4 = wr.alloc (.cells #[.int .u8 (tk : Nat), .int .u64 (tl : Nat), .int .u64 (te : Nat), .bool tr, .bool tm, .int .u64 (s0 : Nat), .slice da dn dc] 43) := ⟨_, rfl⟩
        obtain ⟨g, hg⟩ : ∃ g, g = wr.heap.size := ⟨_, rfl⟩
        have hW4 := Whole.made wr 43 #[.int .u8 (tk : Nat), .int .u64 (tl : Nat), .int .u64 (te : Nat), .bool tr, .bool tm, .int .u64 (s0 : Nat), .slice da dn dc]
        rw [← hw4, ← hg] at hW4
        have hf4 : Frm [] wr w4 := by rw [hw4]; exact (Frm.refl _ _).alloc _
        have HFW := few_any ⟨tk, tl, te, tr, tm, s0, da, dc, dd⟩ w4 (hok.keep hf4)
        unfold Sa.value at HFW
        dsimp only at HFW
        rw [← hdn] at HFW
        have hok2 := fewS_ok HOK.out
        have hfl := fewS_len ⟨tk, tl, te, tr, tm, s0, da, dc, dd⟩
        obtain ⟨t', ht'⟩ : ∃ t', t' = fewS ⟨tk, tl, te, tr, tm, s0, da, dc, dd⟩ := ⟨_, rfl⟩
        rw [← ht'] at HFW hok2 hfl
        have hlow : t'.data ≠ [] → ∀ y, t'.dataA = some y → y.block < w.heap.size := fun hne y hy => bytes_lt hok2.data_b hne y hy
        have hsv : t'.data.length ≤ 256 := by simp only at hfl; omega
        have hk8 : t'.kind < 256 := hok2.kind_lt
        have hl64 : t'.led < N64 := hok2.led_lt
        have he64 : t'.ent < N64 := hok2.ent_lt
        have hs64 : t'.sure < N64 := hok2.sure_lt
        have hbd : Bytes w t'.dataA t'.data := hok2.data_b
        have hbn : t'.dataA = none → t'.dataC = 0 := hok2.data_nil
        obtain ⟨fk, fl, fe, fr', fm, fs, fa, fc, fd⟩ := t'
        simp only at hfl hlow hsv hk8 hl64 he64 hs64 hbd hbn
        obtain ⟨fn, hfn⟩ : ∃ fn, fn = fd.length := ⟨_, rfl⟩
        dsimp only at HFW
        rw [← hfn] at HFW
        have HFW := Lib.hid HFW
        have HLOW := Lib.hid hlow
        have HBD := Lib.hid hbd
        have HBN := Lib.hid hbn
        have HFN := Lib.hid hfn
        have HW4 := Lib.hid hw4
        have HG := Lib.hid hg
        have HWG := Lib.hid hW4
        have HF4 := Lib.hid hf4
        clear hok hdn hfl ht' hfn hw4 hg hW4 hf4 hok2 HOK hlow hbd hbn
        go_wp2_with fail
        rw [← HW4.out]
        (with_reducible refine HFW.out.mono ?_)
        rintro e w5 ⟨rfl, hf5⟩
        obtain ⟨w7, hw7⟩ : ∃ w7, w7 = ((((((w5.setCell ⟨g, 0, none⟩ (.int .u8 (fk : Nat))).setCell ⟨g, 1, none⟩ (.int .u64 (fl : Nat))).setCell ⟨g, 2, none⟩ (.int .u64 (fe : Nat))).setCell ⟨g, 3, none⟩ (.bool fr')).setCell ⟨g, 4, none⟩ (.bool fm)).setCell ⟨g, 5, none⟩ (.int .u64 (fs : Nat))).setCell ⟨g, 6, none⟩ (.slice fa fn fc) := ⟨_, rfl⟩
        have h5 := hf5.whole HWG.out (by simp)
        have h7 : Whole w7 g 43 #[.int .u8 (fk : Nat), .int .u64 (fl : Nat), .int .u64 (fe : Nat), .bool fr', .bool fm, .int .u64 (fs : Nat), .slice fa fn fc] := by
          have := ((((((h5.put 0 (.int .u8 (fk : Nat))).put 1 (.int .u64 (fl : Nat))).put 2 (.int .u64 (fe : Nat))).put 3 (.bool fr')).put 4 (.bool fm)).put 5 (.int .u64 (fs : Nat))).put 6 (.slice fa fn fc)
          rw [hw7]; simpa using this
        have hf7 : Frm [] wr w7 := by
          have h0 : Frm [] wr w5 := HF4.out.trans hf5 (U := []) (by simp) (by simp)
          have hg2 : wr.heap.size ≤ g := by have := HG.out; omega
          rw [hw7]
          exact ((((((h0.setCell (.inr hg2) _).setCell (.inr hg2) _).setCell (.inr hg2) _).setCell (.inr hg2) _).setCell (.inr hg2) _).setCell (.inr hg2) _).setCell (.inr hg2) _
        have HRD7 := Lib.hid (HRD.out.here hf7)
        have HF7 := Lib.hid (HF.out.trans hf7 (U := []) (by simp) (by simp))
        have HE7 := Lib.hid hw7
        have HW7 := Lib.hid h7
        have b0 := h5.cell 0
        have b1 := h5.cell 1
        have b2 := h5.cell 2
        have b3 := h5.cell 3
        have b4 := h5.cell 4
        have b5 := h5.cell 5
        have b6 := h5.cell 6
        have k0 := h5.free 0
        have k1 := h5.free 1
        have k2 := h5.free 2
        have k3 := h5.free 3
        have k4 := h5.free 4
        have k5 := h5.free 5
        have k6 := h5.free 6
        simp at b0 b1 b2 b3 b4 b5 b6
        obtain ⟨r, hr⟩ : ∃ r, r = fk % 6 := ⟨_, rfl⟩
        have hr6 : r < 6 := by omega
        have m1 : (fk : Int) % 6 = (r : Int) := by rw [hr]; rfl
        rw [← HG.out]
        clear hf5 h5 h7 hf7 hw7 HFW hr p0 p1 p2 p3 p4 p5 p6
        have NEXT : Hid (∀ (w8 : World) (S' : Nd9) (o : Option Nat) (b' : List Nat), RdTo w7 w8 w.heap.size [] W q m S' (oL l 1048576 o b') 1048576 (j * 3 + 3) → (∀ c ∈ b', c < 256) → 1 ≤ b'.length → b'.length ≤ 400 → S1Rel w q m n (.int .i64 ((j + 1 : Nat) : Nat)) w8) := Lib.hid fun w8 S' o b' ht hb8 h1 h2 => by
          obtain ⟨W', k1, k2, k3⟩ := ht
          exact ⟨j + 1, W', S', _, hlt, rfl, Lib.hid (k1.more (by omega)), Lib.hid (HF7.out.trans k2 (by simp) (fun x hx => .inr (HRD7.out.lt x hx).1)), Lib.hid (HRC.out.step hb8 h1 h2)⟩
        have hj40 : j ≤ 40 := by have := H40.out; omega
        have hcase : r = 4 ∨ r = 5 ∨ (r ≠ 4 ∧ r ≠ 5) := by omega
        rcases hcase with rfl | rfl | ⟨h4, h5⟩
        · have HC := Lib.hid (rdfence_any fl hl64 HRD7.out (by simp) (by omega))
          unfold RdEnd at HC
          go_wp2_with fail
          rw [← HE7.out]
          clear b0 b1 b2 b3 b4 b5 b6 k0 k1 k2 k3 k4 k5 k6
          (with_reducible refine HC.out.mono ?_)
          rintro e w8 ⟨rfl, ht⟩
          have HREL := Lib.hid (NEXT.out w8 _ _ _ ht (recW_lt8 2 fl) (by rw [recW_len]; omega) (by rw [recW_len]; omega))
          clear ht HC NEXT
          go_wp2
          go_roundw
          case rel => exact HREL.out
          case measure => simp [intOf]; omega
        · have HC := Lib.hid (rddrop_any fl hl64 HRD7.out (by simp) (by omega))
          unfold RdEnd at HC
          go_wp2_with fail
          rw [← HE7.out]
          clear b0 b1 b2 b3 b4 b5 b6 k0 k1 k2 k3 k4 k5 k6
          (with_reducible refine HC.out.mono ?_)
          rintro e w8 ⟨rfl, ht⟩
          have HREL := Lib.hid (NEXT.out w8 _ _ _ ht (recW_lt8 3 fl) (by rw [recW_len]; omega) (by rw [recW_len]; omega))
          clear ht HC NEXT
          go_wp2
          go_roundw
          case rel => exact HREL.out
          case measure => simp [intOf]; omega
        · have n4 : ((fk : Int) % 6 == 4) = false := by rw [m1, beq_eq_false_iff_ne]; omega
          have n5 : ((fk : Int) % 6 == 5) = false := by rw [m1, beq_eq_false_iff_ne]; omega
          clear m1
          have HC := Lib.hid (rdadd_any fl fe fs fa fn fc fd fm hl64 he64 hs64 HRD7.out (by simp) (by omega) (HF7.out.bytes' HBD.out (by simp)) HFN.out HBN.out (fun hne y hy hm' => by have h1 := HLOW.out hne y hy; have h2 := (HRD7.out.lt _ hm').1; omega))
          unfold RdEnd at HC
          have HLR : Hid ((recA fl fe fs fd).length ≤ 400 ∧ 1 ≤ (recA fl fe fs fd).length) := Lib.hid (by rw [recA_len]; omega)
          go_wp2_with fail
          rw [← HE7.out]
          clear b0 b1 b2 b3 b4 b5 b6 k0 k1 k2 k3 k4 k5 k6
          (with_reducible refine HC.out.mono ?_)
          rintro e w8 ⟨rfl, ht⟩
          have HREL := Lib.hid (NEXT.out w8 _ _ _ ht (recA_lt8 fl fe fs HBD.out.1) HLR.out.2 HLR.out.1)
          clear ht HC NEXT
          go_wp2
          go_roundw
          case rel => exact HREL.out
          case measure => simp [intOf]; omega
    · obtain rfl : j = n := by omega
      obtain ⟨da, dc, d1, d2, dby, dcap, dnil, dfit⟩ := rd_doc HRD.out
      obtain ⟨dn, hdn⟩ : ∃ dn, dn = l.length := ⟨_, rfl⟩
      rw [← hdn] at d2 dcap
      have HRE := Lib.hid (records_anyC da dn dc l [] wr dby hdn dcap dnil (by omega) (by simp) (by simp))
      unfold RecsC at HRE
      obtain ⟨nl, hnl⟩ : ∃ nl, nl = (recs l).length := ⟨_, rfl⟩
      rw [← hnl] at HRE
      have HNL := Lib.hid hnl
      have hnl40 : nl ≤ 40 := by have h1 := HRC.out.few; have h2 := H40.out; omega
      obtain ⟨rn9, hrn9⟩ : ∃ x, x = recN l := ⟨_, rfl⟩
      rw [← hrn9] at HRE
      clear dby hdn dcap dnil dfit hnl hrn9 hlt
      go_wp2_with fail
      (with_reducible refine HRE.out.mono ?_)
      rintro e w2 ⟨ar, cr, vs, rfl, hown, hf2, hcaps⟩
      have HF2 := Lib.hid (HF.out.trans hf2 (U := []) (by simp) (by simp))
      have HOW := Lib.hid hown
      have hoc := hown.caps
      obtain ⟨w3, hw3⟩ : ∃ w3, w3 = w2.alloc (.cells #[] 35) := ⟨_, rfl⟩
      have hf3 : Frm [] w2 w3 := by rw [hw3]; exact (Frm.refl _ _).alloc _
      have LIT : Hid (w3.ownsRow w.heap.size 35 1 (.slice (some ⟨w2.heap.size, 0, none⟩) 0 0) 0 []) := Lib.hid (by rw [hw3]; exact World.ownsRow_lit w2 #[] 0 HF2.out.size (by unfold maxLen; omega) rfl)
      have HVA : Hid (ValsAt w3 ar vs) := Lib.hid ((own_vals (hf3.own hown.own (by simp))))
      have HCAPS : Hid (∀ i, i < (recs l).length → ∃ ai ci, vs[i]? = some (.slice ai ((recs l).getD i []).length ci) ∧ ((recs l).getD i []).length ≤ ci) := Lib.hid hcaps
      have HON : Hid (∀ u ∈ vs, u.oneCell' = true) := Lib.hid hown.ents.one'
      have HARN : Hid (ar = none → cr = 0) := Lib.hid hoc.2.2
      have HVL : Hid (nl = vs.length) := Lib.hid (by rw [hown.ents.len, HNL.out])
      have HW3 := Lib.hid hw3
      have HF3 := Lib.hid (HF2.out.trans hf3 (U := []) (by simp) (by simp))
      have HF23 := Lib.hid hf3
      clear hown hf2 hoc hw3 hf3 hcaps HRE d1 d2
      go_wp2_with (at_builtin; rw [← HW3.out]; refine wpList_appV rfl (.tmp 83) (.tmp 84) 50 rfl w.heap.size 35 i0 (.slice none 0 0) 24 Tryz.underlying50 HI.out HZ0.out rfl HZ1.out HZ2.out (by decide) (.slice (some ⟨w2.heap.size, 0, none⟩) 0 0) 0 [] rfl LIT.out ar nl cr vs rfl HVA.out HVL.out HON.out HARN.out (by omega) HF3.out.size ?_)
      intro al cl w4 happ
      have hnew : ∀ x ∈ blk al, w2.heap.size ≤ x := fun x hx => by
        have hg' := (ownBlk3 (n := 0 + nl) (c := cl)).2 hx
        rcases happ.place with h1 | h1
        · rw [hg'] at h1; simp [Value.ownBlock] at h1; omega
        · rw [hg'] at h1; cases h1; exact HF23.out.size
      have hf34 : Frm [] w2 w4 := HF23.out.grown happ.grown (fun x hx => .inr (by simp [Value.ownBlock] at hx; omega))
      have hsl : Sl9 w4 w.heap.size 35 al nl cl vs (recs l) := ⟨by have := happ.own; simpa using this, HOW.out.ents.keep hf34 (by simp) (fun x hx => .inr (hnew x hx)), HNL.out, HCAPS.out, fun i hi => HRC.out.len _ (by simp [hi])⟩
      try rw [Nat.zero_add]
      have HR0 : Hid (S2Rel w al nl cl (.int .i64 (0 : Nat)) w4) := Lib.hid ⟨0, vs, recs l, by omega, rfl, Lib.hid hsl, Lib.hid (HF2.out.trans hf34 (U := []) (by simp) (by simp))⟩
      clear happ hnew hf34 hsl LIT HVA HON HARN HVL HW3 HF3 HF23 HOW HRD HF HRC HF2 HNL HCAPS
      go_wp2
      go_loopw [14] (fun s14 wr => S2Rel w al nl cl s14 wr) (fun s14 _ => 3 - (intOf s14).toNat)
      case atStart => exact HR0.out
      case round =>
        clear HR0
        obtain ⟨i, vs, L, hi, rfl, HSL, HF⟩ := hrel
        have hlen : nl = L.length := HSL.out.len
        by_cases h2 : i < n2
        · by_cases h3 : i < n3
          · by_cases h4 : i < 3
            · by_cases h5 : 0 < nl
              · have d2 : decide ((i : Int) < (n2 : Int)) = true := decide_eq_true (by omega)
                have d2' : decide (i < n2) = true := decide_eq_true h2
                have d3 : decide ((i : Int) < (n3 : Int)) = true := decide_eq_true (by omega)
                have d3' : decide (i < n3) = true := decide_eq_true h3
                have d4 : decide ((i : Int) < 3) = true := decide_eq_true (by omega)
                have d4' : decide (i < 3) = true := decide_eq_true h4
                have d5 : decide ((0 : Int) < (nl : Int)) = true := decide_eq_true (by omega)
                have d5' : decide (0 < nl) = true := decide_eq_true h5
                obtain ⟨⟨hx1, hx2⟩, b2, o2, rfl, px⟩ := (HXS.out.keep HF.out) i (by rw [← HEX.out]; exact h2)
                obtain ⟨x, hxx⟩ : ∃ x, x = xs.getD i 0 := ⟨_, rfl⟩
                rw [← hxx] at hx1 hx2 px
                obtain ⟨b3, o3, rfl, py⟩ : ∃ b3 o3, a3 = some ⟨b3, o3, none⟩ ∧ wr.cell? ⟨b3, o3 + i, none⟩ = some (.int .u8 (bits.getD i 0 : Nat)) := by
                  have h := HF.out.bytes HBS.out (by simp)
                  rcases h.2.2 with h | ⟨b3, o3, e, hc⟩
                  · have := HEB.out; rw [h] at this; simp at this; omega
                  · exact ⟨b3, o3, e, hc i (by rw [← HEB.out]; exact h3)⟩
                have hy8 := getD_lt HBS.out.1 i
                obtain ⟨y, hyy⟩ : ∃ y, y = bits.getD i 0 := ⟨_, rfl⟩
                rw [← hyy] at hy8 py
                obtain ⟨U, kk, hU64, hkl, hEA⟩ := s9mo_a x nl h5 (by omega)
                have HEA := Lib.hid hEA
                clear hEA
                obtain ⟨ai, ci, hu, hby, _, hain⟩ := HSL.out.ents.ent kk (by omega)
                obtain ⟨hb1, hb2⟩ := HSL.out.sz kk (by omega)
                obtain ⟨b, rfl, pr, pf⟩ : ∃ b, al = some ⟨b, 0, none⟩ ∧ wr.cell? ⟨b, kk, none⟩ = some (.slice ai (L.getD kk []).length ci) ∧ wr.frozen? ⟨b, kk, none⟩ = false := by
                  rcases HSL.out.own.2 with ⟨hv, h0⟩ | ⟨b, c', cur, hv, _, hh, _⟩
                  · omega
                  · simp only [Value.slice.injEq] at hv
                    obtain ⟨rfl, _, _⟩ := hv
                    refine ⟨b, rfl, ?_, World.ownsRow.frozenAt HSL.out.own kk⟩
                    rcases own_vals HSL.out.own with h | ⟨b', off', e, hc⟩
                    · rw [h] at hu; simp at hu
                    · cases e
                      have := hc kk _ hu
                      rw [Nat.zero_add] at this; exact this
                obtain ⟨d, hd⟩ : ∃ d, d = L.getD kk [] := ⟨_, rfl⟩
                rw [← hd] at hby pr hb1 hb2
                obtain ⟨dn, hdn⟩ : ∃ dn, dn = d.length := ⟨_, rfl⟩
                rw [← hdn] at pr
                have HU : Hid (U < 18446744073709551616) := Lib.hid hU64
                have HBYD := Lib.hid hby
                have HDN := Lib.hid hdn
                have HAIN := Lib.hid hain
                have HKL := Lib.hid hkl
                have HB12 : Hid (1 ≤ d.length ∧ d.length ≤ 400) := Lib.hid ⟨hb1, hb2⟩
                have hdn4 : dn ≤ 400 := by omega
                have HDN4 := Lib.hid hdn4
                have HD1 : Hid (1 ≤ dn) := Lib.hid (by omega)
                have hb2lt : b2 < w.heap.size := by
                  obtain ⟨_, b2x, o2x, e, hc⟩ := HXS.out i (by rw [← HEX.out]; exact h2)
                  cases e
                  exact block_lt_of_cell hc
                have hb3lt : b3 < w.heap.size := bytes_lt HBS.out (fun h => by have h1 := HEB.out; rw [h] at h1; simp at h1; rw [h1] at h3; exact absurd h3 (Nat.not_lt_zero _)) _ rfl
                have HB2L := Lib.hid hb2lt
                have HB3L := Lib.hid hb3lt
                have hblt : b < wr.heap.size := block_lt_of_cell pr
                have HBL := Lib.hid hblt
                have PX := Lib.hid px
                have PY := Lib.hid py
                have PR := Lib.hid pr
                have PF := Lib.hid pf
                have i2 : (i : Int) < (n2 : Int) := Int.ofNat_lt.2 h2
                have HI3 : Hid ((i : Int) < (n3 : Int)) := Lib.hid (Int.ofNat_lt.2 h3)
                have E1 : wrap64 ((IntKind.u64.wrap x).tmod (nl : Int)) = (kk : Int) := by obtain ⟨e1, e2, e3, e7, b1, hk2⟩ := HEA.out; rw [e1, e2, e3]
                have b1 : ((nl : Int) == 0) = false := HEA.out.2.2.2.2.1
                have e7 : IntKind.u64.wrap (nl : Int) = (nl : Int) := HEA.out.2.2.2.1
                have hk2 : (kk : Int) < (nl : Int) := HEA.out.2.2.2.2.2
                have hn0 : ¬ nl = 0 := by omega
                have HN00 : Hid (¬ nl = 0 ∧ ∃ t8 : Nat, t8 < 8 ∧ (y : Int).tmod 8 = (t8 : Int)) := Lib.hid ⟨hn0, y % 8, Nat.mod_lt _ (by decide), rfl⟩
                have HY8 := Lib.hid hy8
                have H4' := Lib.hid h4
                have HLEN := Lib.hid hlen
                obtain ⟨w5, hw5⟩ : ∃ w5, w5 = wr.alloc (.cells #[] 5) := ⟨_, rfl⟩
                have hf5 : Frm [] wr w5 := by rw [hw5]; exact (Frm.refl _ _).alloc _
                have LIT : Hid (w5.ownsRow wr.heap.size 5 1 (.slice (some ⟨wr.heap.size, 0, none⟩) 0 0) 0 []) := Lib.hid (by rw [hw5]; exact World.ownsRow_lit wr #[] 0 (Nat.le_refl _) (by unfold maxLen; omega) rfl)
                have BYD5 : Hid (Bytes w5 ai d) := Lib.hid (hf5.bytes' hby (by simp))
                have HF5 := Lib.hid hf5
                have HW5 := Lib.hid hw5
                have p5 := (hf5.cell (p := ⟨b, kk, none⟩) hblt (by simp)).trans pr
                rw [hw5] at p5
                clear hxx hyy hx1 hx2 hU64 hkl hu hby hain hb1 hb2 hd hdn h2 h3 h4 h5 hb2lt hb3lt py hf5 hw5 pf hlen hblt hdn4
                go_wp2_with (at_builtin; rw [← HW5.out]; refine wpList_append_bytes rfl (.tmp 117) (.tmp 121) 35 rfl wr.heap.size 5 u0 Tryz.underlying35 UI.out UZ0.out UZ1.out UZ2.out _ 0 [] rfl LIT.out ai dn ci d rfl BYD5.out HDN.out HAIN.out (by have := HDN4.out; omega) HF5.out.size ?_)
                intro ra rc w6 hown6 hg6
                clear px pr p5 E1 b1 e7 hk2 hn0 i2
                have hf6 : Frm [] wr w6 := HF5.out.grown hg6 (fun z hz => by simp [Value.ownBlock] at hz; exact .inr (by omega))
                have hown7 : w6.ownsRow wr.heap.size 5 1 (.slice ra d.length rc) d.length (d.map u8v) := by have := HDN.out; rw [← this]; simpa using hown6
                have hrw : Rw wr w6 ra rc d := ⟨hown7, hf6, fun z hz => (World.ownsRow.lt hown7 z (ob_some.2 hz)).1⟩
                have hrow := RowW.of hrw HDN.out HB12.out.1 (by have := HB12.out.2; omega) HBYD.out.1
                obtain ⟨g, m9, c9, cur, hv, hgB, hWg, hm1, hmc, hms, hm2, hbyte⟩ := hrow
                simp only [Value.slice.injEq] at hv
                obtain ⟨rfl, rfl, rfl⟩ := hv
                have hrow2 : RowW w6 wr.heap.size (.slice (some ⟨g, 0, none⟩) dn rc) := RowW.of hrw HDN.out HB12.out.1 (by have := HB12.out.2; omega) HBYD.out.1
                have HROW := Lib.hid hrow2
                obtain ⟨V, jj, hjm, hEB⟩ := s9mo_b U nl dn hm1 hm2
                have HEB2 := Lib.hid hEB
                clear hEB
                obtain ⟨z0, hz0, hz1⟩ := hbyte jj hjm
                have hcg : w6.cell? ⟨g, jj, none⟩ = some (.int .u8 (z0 : Nat)) := (hWg.cell jj).trans hz1
                have hfg : w6.frozen? ⟨g, jj, none⟩ = false := hWg.free jj
                have HF6 := Lib.hid hf6
                have HGB := Lib.hid hgB
                have HZ8 := Lib.hid hz0
                have hg2 : b2 ∉ [g] := by have h1 := HB2L.out; have h2 := HF.out.size; simp; omega
                have hg3 : b3 ∉ [g] := by have h1 := HB3L.out; have h2 := HF.out.size; simp; omega
                have QX : Hid (∀ z, Frm [g] w6 z → z.cell? ⟨b2, o2 + i, none⟩ = some (.int .i64 x)) := Lib.hid fun z hz => (hz.cell (p := ⟨b2, o2 + i, none⟩) (Nat.lt_of_lt_of_le HB2L.out (HF.out.trans HF6.out (U := []) (by simp) (by simp)).size) hg2).trans ((HF6.out.cell (p := ⟨b2, o2 + i, none⟩) (Nat.lt_of_lt_of_le HB2L.out HF.out.size) (by simp)).trans PX.out)
                have QY : Hid (∀ z, Frm [g] w6 z → z.cell? ⟨b3, o3 + i, none⟩ = some (.int .u8 (y : Nat))) := Lib.hid fun z hz => (hz.cell (p := ⟨b3, o3 + i, none⟩) (Nat.lt_of_lt_of_le HB3L.out (HF.out.trans HF6.out (U := []) (by simp) (by simp)).size) hg3).trans ((HF6.out.cell (p := ⟨b3, o3 + i, none⟩) (Nat.lt_of_lt_of_le HB3L.out HF.out.size) (by simp)).trans PY.out)
                have E2 : Hid (IntKind.i64.wrap ((IntKind.u64.wrap ((IntKind.u64.wrap x).tdiv (nl : Int))).tmod (dn : Int)) = (jj : Int)) := Lib.hid (by obtain ⟨e1, e2, e3, e7, b1, hk2⟩ := HEA.out; obtain ⟨e4, e5, e6, e8, b2', hj2⟩ := HEB2.out; rw [e1, e4, s9mo6 U nl V e4 HU.out, e5, e6])
                have HM0 : Hid (¬ dn = 0) := Lib.hid (by have := HD1.out; omega)
                clear hown6 hg6 hf6 hown7 hrw hrow2 hbyte hWg hz0 hz1 hgB hmc hms hm2 hm1 hjm hg2 hg3
                try rw [Nat.zero_add]
                go_wp2
                have qx := QX.out
                have qy := QY.out
                have e2 := E2.out
                have b1 : ((nl : Int) == 0) = false := HEA.out.2.2.2.2.1
                have e7 : IntKind.u64.wrap (nl : Int) = (nl : Int) := HEA.out.2.2.2.1
                have e8 : IntKind.u64.wrap (dn : Int) = (dn : Int) := HEB2.out.2.2.2.1
                have bm : ((dn : Int) == 0) = false := HEB2.out.2.2.2.2.1
                have hj2 : (jj : Int) < (dn : Int) := HEB2.out.2.2.2.2.2
                have hn0 : ¬ nl = 0 := HN00.out.1
                have hm0 : ¬ dn = 0 := HM0.out
                have i2 : (i : Int) < (n2 : Int) := of_decide_eq_true d2
                have i3 : (i : Int) < (n3 : Int) := HI3.out
                obtain ⟨t8, ht8, et8⟩ : ∃ t8 : Nat, t8 < 8 ∧ (y : Int).tmod 8 = (t8 : Int) := HN00.out.2
                refine wp_region_held_drew (S := fun w' => Frm [g] w6 w') (by kernel_rfl) (Frm.drew (Frm.refl _ _)) (fun hHeld => ?_)
                refine wpAnyH_take (i := 0) (oi := ⟨some 123, _, _, _, _, _⟩) (v := ?_) rfl (by kernel_rfl) (by kernel_rfl) (by kernel_rfl) (fun _ _ _ h => h) (Or.inl ⟨by rfl, ?_⟩) (by assumption) ?_
                rotate_left 1
                · (intro w hSw; (try dsimp only at hSw); go_simp; all_goals with_reducible rfl)
                try simp only [Act.put, List.setIfInBounds_toArray, List.set_cons_zero, List.set_cons_succ]
                refine wpAnyH_take (i := 1) (oi := ⟨some 124, _, _, _, _, _⟩) (v := ?_) rfl (by kernel_rfl) (by kernel_rfl) (by kernel_rfl) (fun _ _ _ h => h) (Or.inl ⟨by rfl, ?_⟩) (by assumption) ?_
                rotate_left 1
                · (intro w hSw; (try dsimp only at hSw); go_simp; all_goals with_reducible rfl)
                try simp only [Act.put, List.setIfInBounds_toArray, List.set_cons_zero, List.set_cons_succ]
                refine wpAnyH_take (i := 2) (oi := ⟨some 125, _, _, _, _, _⟩) (v := ?_) rfl (by kernel_rfl) (by kernel_rfl) (by kernel_rfl) (fun _ _ _ h => h) (Or.inl ⟨by rfl, ?_⟩) (by assumption) ?_
                rotate_left 1
                · (intro w hSw; (try dsimp only at hSw); go_simp; all_goals with_reducible rfl)
                try simp only [Act.put, List.setIfInBounds_toArray, List.set_cons_zero, List.set_cons_succ]
                refine wpAnyH_take (i := 3) (oi := ⟨some 126, _, _, _, _, _⟩) (v := ?_) rfl (by kernel_rfl) (by kernel_rfl) (by kernel_rfl) (fun _ _ _ h => h) (Or.inl ⟨by rfl, ?_⟩) (by assumption) ?_
                rotate_left 1
                · (intro w hSw; (try dsimp only at hSw); go_simp; all_goals with_reducible rfl)
                try simp only [Act.put, List.setIfInBounds_toArray, List.set_cons_zero, List.set_cons_succ]
                refine wpAnyH_take (i := 4) (oi := ⟨some 127, _, _, _, _, _⟩) (v := ?_) rfl (by kernel_rfl) (by kernel_rfl) (by kernel_rfl) (fun _ _ _ h => h) (Or.inl ⟨by rfl, ?_⟩) (by assumption) ?_
                rotate_left 1
                · (intro w hSw; (try dsimp only at hSw); go_simp; all_goals with_reducible rfl)
                try simp only [Act.put, List.setIfInBounds_toArray, List.set_cons_zero, List.set_cons_succ]
                refine wpAnyH_take (i := 5) (oi := ⟨some 128, _, _, _, _, _⟩) (v := ?_) rfl (by kernel_rfl) (by kernel_rfl) (by kernel_rfl) (fun _ _ _ h => h) (Or.inl ⟨by rfl, ?_⟩) (by assumption) ?_
                rotate_left 1
                · (intro w hSw; (try dsimp only at hSw); go_simp; all_goals with_reducible rfl)
                try simp only [Act.put, List.setIfInBounds_toArray, List.set_cons_zero, List.set_cons_succ]
                refine wpAnyH_take (i := 6) (oi := ⟨some 129, _, _, _, _, _⟩) (v := ?_) rfl (by kernel_rfl) (by kernel_rfl) (by kernel_rfl) (fun _ _ _ h => h) (Or.inl ⟨by rfl, ?_⟩) (by assumption) ?_
                rotate_left 1
                · (intro w hSw; (try dsimp only at hSw); go_simp; all_goals with_reducible rfl)
                try simp only [Act.put, List.setIfInBounds_toArray, List.set_cons_zero, List.set_cons_succ]
                refine wpAnyH_take (i := 7) (oi := ⟨some 130, _, _, _, _, _⟩) (v := ?_) rfl (by kernel_rfl) (by kernel_rfl) (by kernel_rfl) (fun _ _ _ h => h) (Or.inl ⟨by rfl, ?_⟩) (by assumption) ?_
                rotate_left 1
                · (intro w hSw; (try dsimp only at hSw); go_simp; all_goals with_reducible rfl)
                try simp only [Act.put, List.setIfInBounds_toArray, List.set_cons_zero, List.set_cons_succ]
                refine wpAnyH_take (i := 8) (oi := ⟨some 131, _, _, _, _, _⟩) (v := ?_) rfl (by kernel_rfl) (by kernel_rfl) (by kernel_rfl) (fun _ _ _ h => h) (Or.inl ⟨by rfl, ?_⟩) (by assumption) ?_
                rotate_left 1
                · (intro w hSw; (try dsimp only at hSw); go_simp; all_goals with_reducible rfl)
                try simp only [Act.put, List.setIfInBounds_toArray, List.set_cons_zero, List.set_cons_succ]
                refine wpAnyH_take (i := 9) (oi := ⟨some 132, _, _, _, _, _⟩) (v := ?_) rfl (by kernel_rfl) (by kernel_rfl) (by kernel_rfl) (fun _ _ _ h => h) (Or.inl ⟨by rfl, ?_⟩) (by assumption) ?_
                rotate_left 1
                · (intro w hSw; (try dsimp only at hSw); go_simp; all_goals with_reducible rfl)
                try simp only [Act.put, List.setIfInBounds_toArray, List.set_cons_zero, List.set_cons_succ]
                refine wpAnyH_take (i := 10) (oi := ⟨some 133, _, _, _, _, _⟩) (v := ?_) rfl (by kernel_rfl) (by kernel_rfl) (by kernel_rfl) (fun _ _ _ h => h) (Or.inl ⟨by rfl, ?_⟩) (by assumption) ?_
                rotate_left 1
                · (intro w hSw; (try dsimp only at hSw); go_simp; all_goals with_reducible rfl)
                try simp only [Act.put, List.setIfInBounds_toArray, List.set_cons_zero, List.set_cons_succ]
                refine wpAnyH_take (i := 11) (oi := ⟨some 134, _, _, _, _, _⟩) (v := ?_) rfl (by kernel_rfl) (by kernel_rfl) (by kernel_rfl) (fun _ _ _ h => h) (Or.inl ⟨by rfl, ?_⟩) (by assumption) ?_
                rotate_left 1
                · (intro w hSw; (try dsimp only at hSw); go_simp; all_goals with_reducible rfl)
                try simp only [Act.put, List.setIfInBounds_toArray, List.set_cons_zero, List.set_cons_succ]
                refine wpAnyH_take (i := 12) (oi := ⟨some 135, _, _, _, _, _⟩) (v := ?_) rfl (by kernel_rfl) (by kernel_rfl) (by kernel_rfl) (fun _ _ _ h => h) (Or.inl ⟨by rfl, ?_⟩) (by assumption) ?_
                rotate_left 1
                · (intro w hSw; (try dsimp only at hSw); go_simp; all_goals with_reducible rfl)
                try simp only [Act.put, List.setIfInBounds_toArray, List.set_cons_zero, List.set_cons_succ]
                refine wpAnyH_take (i := 13) (oi := ⟨some 136, _, _, _, _, _⟩) (v := ?_) rfl (by kernel_rfl) (by kernel_rfl) (by kernel_rfl) (fun _ _ _ h => h) (Or.inl ⟨by rfl, ?_⟩) (by assumption) ?_
                rotate_left 1
                · (intro w hSw; (try dsimp only at hSw); go_simp; all_goals with_reducible rfl)
                try simp only [Act.put, List.setIfInBounds_toArray, List.set_cons_zero, List.set_cons_succ]
                refine wpAnyH_take (i := 14) (oi := ⟨some 137, _, _, _, _, _⟩) (v := ?_) rfl (by kernel_rfl) (by kernel_rfl) (by kernel_rfl) (fun _ _ _ h => h) (Or.inl ⟨by rfl, ?_⟩) (by assumption) ?_
                rotate_left 1
                · (intro w hSw; (try dsimp only at hSw); go_simp; all_goals with_reducible rfl)
                try simp only [Act.put, List.setIfInBounds_toArray, List.set_cons_zero, List.set_cons_succ]
                refine wpAnyH_take (i := 15) (oi := ⟨some 138, _, _, _, _, _⟩) (v := ?_) rfl (by kernel_rfl) (by kernel_rfl) (by kernel_rfl) (fun _ _ _ h => h) (Or.inl ⟨by rfl, ?_⟩) (by assumption) ?_
                rotate_left 1
                · (intro w hSw; (try dsimp only at hSw); go_simp; all_goals with_reducible rfl)
                try simp only [Act.put, List.setIfInBounds_toArray, List.set_cons_zero, List.set_cons_succ]
                refine wpAnyH_take (i := 17) (oi := ⟨some 140, _, _, _, _, _⟩) (v := ?_) rfl (by kernel_rfl) (by kernel_rfl) (by kernel_rfl) (fun _ _ _ h => h) (Or.inl ⟨by rfl, ?_⟩) (by assumption) ?_
                rotate_left 1
                · (intro w hSw; (try dsimp only at hSw); go_simp; all_goals with_reducible rfl)
                try simp only [Act.put, List.setIfInBounds_toArray, List.set_cons_zero, List.set_cons_succ]
                refine wpAnyH_take (i := 18) (oi := ⟨some 141, _, _, _, _, _⟩) (v := ?_) rfl (by kernel_rfl) (by kernel_rfl) (by kernel_rfl) (fun _ _ _ h => h) (Or.inl ⟨by rfl, ?_⟩) (by assumption) ?_
                rotate_left 1
                · (intro w hSw; (try dsimp only at hSw); go_simp; all_goals with_reducible rfl)
                try simp only [Act.put, List.setIfInBounds_toArray, List.set_cons_zero, List.set_cons_succ]
                refine wpAnyH_take (i := 19) (oi := ⟨some 142, _, _, _, _, _⟩) (v := ?_) rfl (by kernel_rfl) (by kernel_rfl) (by kernel_rfl) (fun _ _ _ h => h) (Or.inl ⟨by rfl, ?_⟩) (by assumption) ?_
                rotate_left 1
                · (intro w hSw; (try dsimp only at hSw); go_simp; all_goals with_reducible rfl)
                try simp only [Act.put, List.setIfInBounds_toArray, List.set_cons_zero, List.set_cons_succ]
                refine wpAnyH_take (i := 20) (oi := ⟨some 143, _, _, _, _, _⟩) (v := ?_) rfl (by kernel_rfl) (by kernel_rfl) (by kernel_rfl) (fun _ _ _ h => h) (Or.inl ⟨by rfl, ?_⟩) (by assumption) ?_
                rotate_left 1
                · (intro w hSw; (try dsimp only at hSw); go_simp; all_goals with_reducible rfl)
                try simp only [Act.put, List.setIfInBounds_toArray, List.set_cons_zero, List.set_cons_succ]
                refine wpAnyH_take (i := 21) (oi := ⟨some 144, _, _, _, _, _⟩) (v := ?_) rfl (by kernel_rfl) (by kernel_rfl) (by kernel_rfl) (fun _ _ _ h => h) (Or.inl ⟨by rfl, ?_⟩) (by assumption) ?_
                rotate_left 1
                · (intro w hSw; (try dsimp only at hSw); go_simp; all_goals with_reducible rfl)
                try simp only [Act.put, List.setIfInBounds_toArray, List.set_cons_zero, List.set_cons_succ]
                refine wpAnyH_take (i := 22) (oi := ⟨some 145, _, _, _, _, _⟩) (v := ?_) rfl (by kernel_rfl) (by kernel_rfl) (by kernel_rfl) (fun _ _ _ h => h) (Or.inl ⟨by rfl, ?_⟩) (by assumption) ?_
                rotate_left 1
                · (intro w hSw; (try dsimp only at hSw); go_simp; all_goals with_reducible rfl)
                try simp only [Act.put, List.setIfInBounds_toArray, List.set_cons_zero, List.set_cons_succ]
                refine wpAnyH_ready (rs := [16]) (by kernel_rfl) (by simp) ?_
                refine AllReadyH.cons (o := ⟨some 139, _, _, _, _, _⟩) rfl (fun K hK => ?_) AllReadyH.nil
                go_simp
                refine hK.out _ _ (by assumption) (fun hHeld => ?_)
                clear hK K
                try simp only [Act.put, List.setIfInBounds_toArray, List.set_cons_zero, List.set_cons_succ]
                refine wpAnyH_take (i := 23) (oi := ⟨some 146, _, _, _, _, _⟩) (v := ?_) rfl (by kernel_rfl) (by kernel_rfl) (by kernel_rfl) (fun _ _ _ h => h) (Or.inl ⟨by rfl, ?_⟩) (by assumption) ?_
                rotate_left 1
                · (intro w hSw; (try dsimp only at hSw); go_simp; all_goals with_reducible rfl)
                try simp only [Act.put, List.setIfInBounds_toArray, List.set_cons_zero, List.set_cons_succ]
                refine wpAnyH_take (i := 24) (oi := ⟨some 147, _, _, _, _, _⟩) (v := ?_) rfl (by kernel_rfl) (by kernel_rfl) (by kernel_rfl) (fun _ _ _ h => h) (Or.inl ⟨by rfl, ?_⟩) (by assumption) ?_
                rotate_left 1
                · (intro w hSw; (try dsimp only at hSw); go_simp; all_goals with_reducible rfl)
                try simp only [Act.put, List.setIfInBounds_toArray, List.set_cons_zero, List.set_cons_succ]
                refine wpAnyH_ready (rs := [25]) (by kernel_rfl) (by simp) ?_
                refine AllReadyH.cons (o := ⟨none, _, _, _, _, _⟩) rfl (fun K hK => ?_) AllReadyH.nil
                go_simp
                obtain ⟨v, hv⟩ : ∃ v, v = z0 ^^^ 2 ^ t8 := ⟨_, rfl⟩
                have hm7 := s9mo7 z0 t8 HZ8.out ht8
                rw [← hv] at hm7
                rw [hm7.1]
                have hv8 : v < 256 := hm7.2
                have S25 : Frm [g] w6 (w6.setCell ⟨g, jj, none⟩ (.int .u8 (v : Nat))).drew := ((Frm.refl _ _).setCell (.inl (by simp)) _).drew
                have HROW7 : Hid (RowW (w6.setCell ⟨g, jj, none⟩ (.int .u8 (v : Nat))).drew wr.heap.size (.slice (some ⟨g, 0, none⟩) dn rc)) := Lib.hid ((HROW.out.set (g0 := g) (j := jj) hv8).same (Frm.refl _ _).drew)
                have HS25 := Lib.hid S25
                refine hK.out _ _ S25 (fun hHeld => ?_)
                clear hK K
                refine wpAnyH_done (by kernel_rfl) ?_ _
                clear qx qy e2 e7 e8 bm hj2 hn0 hm0 ht8 et8 b1 hcg hfg i2 i3 hm7 hv S25
                obtain ⟨w7, hw7⟩ : ∃ w7, w7 = (w6.setCell ⟨g, jj, none⟩ (.int .u8 (v : Nat))).drew := ⟨_, rfl⟩
                rw [← hw7] at HROW7 HS25 ⊢
                have hf7 : Frm [] wr w7 := HF6.out.trans HS25.out (by simp) (fun z hz => .inr (by simp at hz; rw [hz]; exact HGB.out))
                have hgb : b ∉ [g] := by have h1 := HBL.out; have h2 := HGB.out; simp; omega
                have p7 : w7.cell? ⟨b, kk, none⟩ = some (.slice ai dn ci) := (hf7.cell (p := ⟨b, kk, none⟩) HBL.out (by simp)).trans PR.out
                have f7 : w7.frozen? ⟨b, kk, none⟩ = false := (hf7.frozen (p := ⟨b, kk, none⟩) HBL.out (by simp)).trans PF.out
                obtain ⟨g', c', l', hv', hb', hc'⟩ := HROW7.out.reads
                simp only [Value.slice.injEq, Option.some.injEq, Addr.mk.injEq, and_true] at hv'
                obtain ⟨rfl, hln', rfl⟩ := hv'
                have hset := HSL.out.set hf7 HKL.out hb' hc' HGB.out (by have := HD1.out; omega) (by have := HDN4.out; omega)
                rw [← hln'] at hset
                have hbB : w.heap.size ≤ b := (World.ownsRow.lt HSL.out.own b (by simp [Value.ownBlock])).1
                have HREL : Hid (S2Rel w (some ⟨b, 0, none⟩) nl cl (.int .i64 ((i + 1 : Nat) : Nat)) (w7.setCell ⟨b, kk, none⟩ (.slice (some ⟨g, 0, none⟩) dn rc))) := Lib.hid ⟨i + 1, _, _, H4'.out, rfl, Lib.hid hset, Lib.hid ((HF.out.trans hf7 (U := []) (by simp) (by simp)).setCell (.inr hbB) _)⟩
                have hk2 : (kk : Int) < (nl : Int) := HEA.out.2.2.2.2.2
                have hkn : kk < nl := HKL.out
                clear hw7 hf7 hgb hb' hc' hset hbB hln' l'
                go_wp2
                go_roundw
                case rel => exact HREL.out
                case measure => have := H4'.out; simp [intOf]; omega
              · have d2 : decide ((i : Int) < (n2 : Int)) = true := decide_eq_true (by omega)
                have d2' : decide (i < n2) = true := decide_eq_true h2
                have d3 : decide ((i : Int) < (n3 : Int)) = true := decide_eq_true (by omega)
                have d3' : decide (i < n3) = true := decide_eq_true h3
                have d4 : decide ((i : Int) < 3) = true := decide_eq_true (by omega)
                have d4' : decide (i < 3) = true := decide_eq_true h4
                have d5 : decide ((0 : Int) < (nl : Int)) = false := decide_eq_false (by omega)
                have d5' : decide (0 < nl) = false := decide_eq_false h5
                have HOP1 := Lib.hid (opens9_any al nl cl L wr HSL.out.lcap.1 HSL.out.lcap.2 HSL.out.len (by have := HSL.out.len; omega))
                clear h2 h3 h4 h5 hlen
                go_wp2_with fail
                (with_reducible refine HOP1.out.mono ?_)
                rintro e wo ⟨rfl, hfo⟩
                have HFO := Lib.hid (HF.out.trans hfo (U := []) (by simp) (by simp))
                have HSO := Lib.hid (HSL.out.keep hfo)
                obtain ⟨vs0, hv0, he0, _⟩ := HRR.out.1.ll
                have HV0 : Hid (ValsAt wo a0 vs0) := Lib.hid (by
                  rcases hv0 with h | ⟨b, off, h, hc⟩
                  · exact .inl h
                  · exact .inr ⟨b, off, h, fun i u hu => (HFO.out.cell (p := ⟨b, off + i, none⟩) (block_lt_of_cell (hc i u hu)) (by simp)).trans (hc i u hu)⟩)
                have HE0 := Lib.hid he0
                have HVW := Lib.hid hv0
                have hm0 : n0 = vs0.length := by rw [he0.len]; exact HN0.out
                have HM0 := Lib.hid hm0
                have hol : ∀ x ∈ blk al, w.heap.size ≤ x := fun x hx => (World.ownsRow.lt HSO.out.own x (ownBlk3.2 hx)).1
                have HOL := Lib.hid hol
                clear hfo hv0 he0 hm0 hol HOP1
                have h20b : nl + n0 ≤ 1000000000 := by have := H20.out; omega
                go_wp2_with (at_builtin; refine wpList_appW (by rfl) (.tmp 155) (.tmp 156) 50 rfl w.heap.size 35 i0 (.slice none 0 0) 24 Tryz.underlying50 HI.out HZ0.out rfl HZ1.out HZ2.out (by decide) (.slice al nl cl) nl _ rfl HSO.out.own a0 n0 c0 vs0 rfl HV0.out HM0.out HE0.out.one' HRR.out.1.nil h20b HFO.out.size ?_)
                intro al2 cl2 wz happ
                have HOP2 := Lib.hid (show Calls Tryz.prog 17 #[.slice al2 (nl + n0) cl2] wz fun e w' => e = .returned (.bool true) ∧ Frm [] wz w' from by
                  have hf12 : Frm (blk al) wo wz := (Frm.refl _ _).grown happ.grown (fun x hx => .inl (ownBlk3.1 hx))
                  have h1 := HSO.out.ents.keep (F' := []) hf12 (fun x hx => .inl hx) (by simp)
                  have he := ((HE0.out.less' (F' := blk al) (fun x hx => .inr (HOL.out x hx))).keep (F' := blk al) HFO.out (by simp) (fun x hx => .inl hx)).keep (F' := []) hf12 (fun x hx => .inl hx) (by simp)
                  have hlen : nl + n0 = (L ++ R).length := by rw [List.length_append, ← HSO.out.len, ← HN0.out]
                  exact opens9_any al2 (nl + n0) cl2 (L ++ R) wz ⟨vs ++ vs0, own_vals happ.own, h1.append he, by simp⟩ (s9lcap_of (own_vals happ.own) (s9join_caps h1.len HSO.out.cap (s9of_lcap HVW.out HE0.out HRR.out.2))) hlen (by omega))
                have HFZ : Hid (Frm [] w wz) := Lib.hid (HFO.out.grown happ.grown (fun x hx => .inr (HOL.out x (ownBlk3.1 hx))))
                clear happ h20b
                go_wp2_with fail
                (with_reducible refine HOP2.out.mono ?_)
                rintro e wy ⟨rfl, hfy⟩
                have HE := Lib.hid (HFZ.out.trans hfy (U := []) (by simp) (by simp))
                clear hfy HOP2
                go_wp2
                go_ret
                exact ⟨rfl, HE.out.below (by simp) (Nat.le_refl _)⟩
            · have d2 : decide ((i : Int) < (n2 : Int)) = true := decide_eq_true (by omega)
              have d2' : decide (i < n2) = true := decide_eq_true h2
              have d3 : decide ((i : Int) < (n3 : Int)) = true := decide_eq_true (by omega)
              have d3' : decide (i < n3) = true := decide_eq_true h3
              have d4 : decide ((i : Int) < 3) = false := decide_eq_false (by omega)
              have d4' : decide (i < 3) = false := decide_eq_false h4
              have HOP1 := Lib.hid (opens9_any al nl cl L wr HSL.out.lcap.1 HSL.out.lcap.2 HSL.out.len (by have := HSL.out.len; omega))
              clear h2 h3 h4 hlen
              go_wp2_with fail
              (with_reducible refine HOP1.out.mono ?_)
              rintro e wo ⟨rfl, hfo⟩
              have HFO := Lib.hid (HF.out.trans hfo (U := []) (by simp) (by simp))
              have HSO := Lib.hid (HSL.out.keep hfo)
              obtain ⟨vs0, hv0, he0, _⟩ := HRR.out.1.ll
              have HV0 : Hid (ValsAt wo a0 vs0) := Lib.hid (by
                rcases hv0 with h | ⟨b, off, h, hc⟩
                · exact .inl h
                · exact .inr ⟨b, off, h, fun i u hu => (HFO.out.cell (p := ⟨b, off + i, none⟩) (block_lt_of_cell (hc i u hu)) (by simp)).trans (hc i u hu)⟩)
              have HE0 := Lib.hid he0
              have HVW := Lib.hid hv0
              have hm0 : n0 = vs0.length := by rw [he0.len]; exact HN0.out
              have HM0 := Lib.hid hm0
              have hol : ∀ x ∈ blk al, w.heap.size ≤ x := fun x hx => (World.ownsRow.lt HSO.out.own x (ownBlk3.2 hx)).1
              have HOL := Lib.hid hol
              clear hfo hv0 he0 hm0 hol HOP1
              have h20b : nl + n0 ≤ 1000000000 := by have := H20.out; omega
              go_wp2_with (at_builtin; refine wpList_appW (by rfl) (.tmp 155) (.tmp 156) 50 rfl w.heap.size 35 i0 (.slice none 0 0) 24 Tryz.underlying50 HI.out HZ0.out rfl HZ1.out HZ2.out (by decide) (.slice al nl cl) nl _ rfl HSO.out.own a0 n0 c0 vs0 rfl HV0.out HM0.out HE0.out.one' HRR.out.1.nil h20b HFO.out.size ?_)
              intro al2 cl2 wz happ
              have HOP2 := Lib.hid (show Calls Tryz.prog 17 #[.slice al2 (nl + n0) cl2] wz fun e w' => e = .returned (.bool true) ∧ Frm [] wz w' from by
                have hf12 : Frm (blk al) wo wz := (Frm.refl _ _).grown happ.grown (fun x hx => .inl (ownBlk3.1 hx))
                have h1 := HSO.out.ents.keep (F' := []) hf12 (fun x hx => .inl hx) (by simp)
                have he := ((HE0.out.less' (F' := blk al) (fun x hx => .inr (HOL.out x hx))).keep (F' := blk al) HFO.out (by simp) (fun x hx => .inl hx)).keep (F' := []) hf12 (fun x hx => .inl hx) (by simp)
                have hlen : nl + n0 = (L ++ R).length := by rw [List.length_append, ← HSO.out.len, ← HN0.out]
                exact opens9_any al2 (nl + n0) cl2 (L ++ R) wz ⟨vs ++ vs0, own_vals happ.own, h1.append he, by simp⟩ (s9lcap_of (own_vals happ.own) (s9join_caps h1.len HSO.out.cap (s9of_lcap HVW.out HE0.out HRR.out.2))) hlen (by omega))
              have HFZ : Hid (Frm [] w wz) := Lib.hid (HFO.out.grown happ.grown (fun x hx => .inr (HOL.out x (ownBlk3.1 hx))))
              clear happ h20b
              go_wp2_with fail
              (with_reducible refine HOP2.out.mono ?_)
              rintro e wy ⟨rfl, hfy⟩
              have HE := Lib.hid (HFZ.out.trans hfy (U := []) (by simp) (by simp))
              clear hfy HOP2
              go_wp2
              go_ret
              exact ⟨rfl, HE.out.below (by simp) (Nat.le_refl _)⟩
          · have d2 : decide ((i : Int) < (n2 : Int)) = true := decide_eq_true (by omega)
            have d2' : decide (i < n2) = true := decide_eq_true h2
            have d3 : decide ((i : Int) < (n3 : Int)) = false := decide_eq_false (by omega)
            have d3' : decide (i < n3) = false := decide_eq_false h3
            have HOP1 := Lib.hid (opens9_any al nl cl L wr HSL.out.lcap.1 HSL.out.lcap.2 HSL.out.len (by have := HSL.out.len; omega))
            clear h2 h3 hlen
            go_wp2_with fail
            (with_reducible refine HOP1.out.mono ?_)
            rintro e wo ⟨rfl, hfo⟩
            have HFO := Lib.hid (HF.out.trans hfo (U := []) (by simp) (by simp))
            have HSO := Lib.hid (HSL.out.keep hfo)
            obtain ⟨vs0, hv0, he0, _⟩ := HRR.out.1.ll
            have HV0 : Hid (ValsAt wo a0 vs0) := Lib.hid (by
              rcases hv0 with h | ⟨b, off, h, hc⟩
              · exact .inl h
              · exact .inr ⟨b, off, h, fun i u hu => (HFO.out.cell (p := ⟨b, off + i, none⟩) (block_lt_of_cell (hc i u hu)) (by simp)).trans (hc i u hu)⟩)
            have HE0 := Lib.hid he0
            have HVW := Lib.hid hv0
            have hm0 : n0 = vs0.length := by rw [he0.len]; exact HN0.out
            have HM0 := Lib.hid hm0
            have hol : ∀ x ∈ blk al, w.heap.size ≤ x := fun x hx => (World.ownsRow.lt HSO.out.own x (ownBlk3.2 hx)).1
            have HOL := Lib.hid hol
            clear hfo hv0 he0 hm0 hol HOP1
            have h20b : nl + n0 ≤ 1000000000 := by have := H20.out; omega
            go_wp2_with (at_builtin; refine wpList_appW (by rfl) (.tmp 155) (.tmp 156) 50 rfl w.heap.size 35 i0 (.slice none 0 0) 24 Tryz.underlying50 HI.out HZ0.out rfl HZ1.out HZ2.out (by decide) (.slice al nl cl) nl _ rfl HSO.out.own a0 n0 c0 vs0 rfl HV0.out HM0.out HE0.out.one' HRR.out.1.nil h20b HFO.out.size ?_)
            intro al2 cl2 wz happ
            have HOP2 := Lib.hid (show Calls Tryz.prog 17 #[.slice al2 (nl + n0) cl2] wz fun e w' => e = .returned (.bool true) ∧ Frm [] wz w' from by
              have hf12 : Frm (blk al) wo wz := (Frm.refl _ _).grown happ.grown (fun x hx => .inl (ownBlk3.1 hx))
              have h1 := HSO.out.ents.keep (F' := []) hf12 (fun x hx => .inl hx) (by simp)
              have he := ((HE0.out.less' (F' := blk al) (fun x hx => .inr (HOL.out x hx))).keep (F' := blk al) HFO.out (by simp) (fun x hx => .inl hx)).keep (F' := []) hf12 (fun x hx => .inl hx) (by simp)
              have hlen : nl + n0 = (L ++ R).length := by rw [List.length_append, ← HSO.out.len, ← HN0.out]
              exact opens9_any al2 (nl + n0) cl2 (L ++ R) wz ⟨vs ++ vs0, own_vals happ.own, h1.append he, by simp⟩ (s9lcap_of (own_vals happ.own) (s9join_caps h1.len HSO.out.cap (s9of_lcap HVW.out HE0.out HRR.out.2))) hlen (by omega))
            have HFZ : Hid (Frm [] w wz) := Lib.hid (HFO.out.grown happ.grown (fun x hx => .inr (HOL.out x (ownBlk3.1 hx))))
            clear happ h20b
            go_wp2_with fail
            (with_reducible refine HOP2.out.mono ?_)
            rintro e wy ⟨rfl, hfy⟩
            have HE := Lib.hid (HFZ.out.trans hfy (U := []) (by simp) (by simp))
            clear hfy HOP2
            go_wp2
            go_ret
            exact ⟨rfl, HE.out.below (by simp) (Nat.le_refl _)⟩
        · have d2 : decide ((i : Int) < (n2 : Int)) = false := decide_eq_false (by omega)
          have d2' : decide (i < n2) = false := decide_eq_false h2
          have HOP1 := Lib.hid (opens9_any al nl cl L wr HSL.out.lcap.1 HSL.out.lcap.2 HSL.out.len (by have := HSL.out.len; omega))
          clear h2 hlen
          go_wp2_with fail
          (with_reducible refine HOP1.out.mono ?_)
          rintro e wo ⟨rfl, hfo⟩
          have HFO := Lib.hid (HF.out.trans hfo (U := []) (by simp) (by simp))
          have HSO := Lib.hid (HSL.out.keep hfo)
          obtain ⟨vs0, hv0, he0, _⟩ := HRR.out.1.ll
          have HV0 : Hid (ValsAt wo a0 vs0) := Lib.hid (by
            rcases hv0 with h | ⟨b, off, h, hc⟩
            · exact .inl h
            · exact .inr ⟨b, off, h, fun i u hu => (HFO.out.cell (p := ⟨b, off + i, none⟩) (block_lt_of_cell (hc i u hu)) (by simp)).trans (hc i u hu)⟩)
          have HE0 := Lib.hid he0
          have HVW := Lib.hid hv0
          have hm0 : n0 = vs0.length := by rw [he0.len]; exact HN0.out
          have HM0 := Lib.hid hm0
          have hol : ∀ x ∈ blk al, w.heap.size ≤ x := fun x hx => (World.ownsRow.lt HSO.out.own x (ownBlk3.2 hx)).1
          have HOL := Lib.hid hol
          clear hfo hv0 he0 hm0 hol HOP1
          have h20b : nl + n0 ≤ 1000000000 := by have := H20.out; omega
          go_wp2_with (at_builtin; refine wpList_appW (by rfl) (.tmp 155) (.tmp 156) 50 rfl w.heap.size 35 i0 (.slice none 0 0) 24 Tryz.underlying50 HI.out HZ0.out rfl HZ1.out HZ2.out (by decide) (.slice al nl cl) nl _ rfl HSO.out.own a0 n0 c0 vs0 rfl HV0.out HM0.out HE0.out.one' HRR.out.1.nil h20b HFO.out.size ?_)
          intro al2 cl2 wz happ
          have HOP2 := Lib.hid (show Calls Tryz.prog 17 #[.slice al2 (nl + n0) cl2] wz fun e w' => e = .returned (.bool true) ∧ Frm [] wz w' from by
            have hf12 : Frm (blk al) wo wz := (Frm.refl _ _).grown happ.grown (fun x hx => .inl (ownBlk3.1 hx))
            have h1 := HSO.out.ents.keep (F' := []) hf12 (fun x hx => .inl hx) (by simp)
            have he := ((HE0.out.less' (F' := blk al) (fun x hx => .inr (HOL.out x hx))).keep (F' := blk al) HFO.out (by simp) (fun x hx => .inl hx)).keep (F' := []) hf12 (fun x hx => .inl hx) (by simp)
            have hlen : nl + n0 = (L ++ R).length := by rw [List.length_append, ← HSO.out.len, ← HN0.out]
            exact opens9_any al2 (nl + n0) cl2 (L ++ R) wz ⟨vs ++ vs0, own_vals happ.own, h1.append he, by simp⟩ (s9lcap_of (own_vals happ.own) (s9join_caps h1.len HSO.out.cap (s9of_lcap HVW.out HE0.out HRR.out.2))) hlen (by omega))
          have HFZ : Hid (Frm [] w wz) := Lib.hid (HFO.out.grown happ.grown (fun x hx => .inr (HOL.out x (ownBlk3.1 hx))))
          clear happ h20b
          go_wp2_with fail
          (with_reducible refine HOP2.out.mono ?_)
          rintro e wy ⟨rfl, hfy⟩
          have HE := Lib.hid (HFZ.out.trans hfy (U := []) (by simp) (by simp))
          clear hfy HOP2
          go_wp2
          go_ret
          exact ⟨rfl, HE.out.below (by simp) (Nat.le_refl _)⟩
end Go.Proofs.YtamcandcfainfaaGreat
