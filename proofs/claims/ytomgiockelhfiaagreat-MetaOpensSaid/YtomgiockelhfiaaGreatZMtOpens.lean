/- The walk of 'mailcoachlaw08.MetaOpens'. -/
import Derived.Test.YtomgiockelhfiaaGreatMX
import Derived.Test.YtomgiockelhfiaaGreatZMtOpenL
import Derived.Test.YtomgiockelhfiaaGreatZRows2
import Derived.Test.YtomgiockelhfiaaGreatZInIs
import Derived.Test.YtomgiockelhfiaaGreatZOpLc
namespace Go.Proofs.YtomgiockelhfiaaGreat
open Go.RowKit
set_option maxRecDepth 100000
def MoRel (w : World) (n : Nat) (s9 s10 s33 : Value) (wr : World) : Prop :=
  ∃ (k q : Nat) (S : MS) (al : Option Addr) (nl cl : Nat) (vs : List Value), k ≤ n ∧ s33 = .int .i64 (k : Nat) ∧ s9 = .pointer (some ⟨q, 0, none⟩) ∧ s10 = .slice al nl cl ∧ nl ≤ k ∧ Hid (wr.ownsRow w.heap.size 35 1 (.slice al nl cl) nl vs) ∧ Hid (∀ u ∈ vs, RowW wr w.heap.size u) ∧ Hid (Ds wr w.heap.size q (blk al) S) ∧ Hid (MOk S) ∧ Hid (Frm [] w wr)
def M2Rel (w : World) (al : Option Addr) (nl cl : Nat) (vs : List Value) (s17 : Value) (wr : World) : Prop :=
  ∃ i : Nat, i ≤ 3 ∧ s17 = .int .i64 (i : Nat) ∧ Hid (wr.ownsRow w.heap.size 35 1 (.slice al nl cl) nl vs) ∧ Hid (∀ u ∈ vs, RowW wr w.heap.size u) ∧ Hid (Frm [] w wr)
theorem lcap_of {w : World} {a : Option Addr} {vs : List Value} {L : List (List Nat)} (hv : ValsAt w a vs) (h : ∀ i, i < L.length → ∃ ai ci, vs[i]? = some (.slice ai (L.getD i []).length ci) ∧ (L.getD i []).length ≤ ci) : LCap w a L := fun i hi => by
  obtain ⟨ai, ci, e1, e2⟩ := h i hi
  rcases hv with h0 | ⟨b, off, rfl, hc⟩
  · rw [h0] at e1; simp at e1
  · exact ⟨b, off, ai, ci, rfl, hc i _ e1, e2⟩
theorem of_lcap {w : World} {a : Option Addr} {vs : List Value} {L : List (List Nat)} (hv : ValsAt w a vs) (he : Ents w [] vs L) (hc : LCap w a L) : ∀ i, i < L.length → ∃ ai ci, vs[i]? = some (.slice ai (L.getD i []).length ci) ∧ (L.getD i []).length ≤ ci := fun i hi => by
  obtain ⟨ai, ci, e1, _⟩ := he.ent i hi
  obtain ⟨b, off, ai2, ci2, ha, k1, k2⟩ := hc i hi
  rcases hv with h0 | ⟨b3, off3, h3, hc3⟩
  · rw [h0] at e1; simp at e1
  · rw [ha] at h3
    simp only [Option.some.injEq, Addr.mk.injEq] at h3
    obtain ⟨rfl, rfl, _⟩ := h3
    have := hc3 i _ e1
    rw [k1] at this
    simp only [Option.some.injEq, Value.slice.injEq] at this
    exact ⟨ai, ci, e1, by rw [← this.2.2]; exact k2⟩
theorem join_caps {vs us : List Value} {L M : List (List Nat)} (hl : vs.length = L.length) (h : ∀ i, i < L.length → ∃ ai ci, vs[i]? = some (.slice ai (L.getD i []).length ci) ∧ (L.getD i []).length ≤ ci) (k : ∀ i, i < M.length → ∃ ai ci, us[i]? = some (.slice ai (M.getD i []).length ci) ∧ (M.getD i []).length ≤ ci) : ∀ i, i < (L ++ M).length → ∃ ai ci, (vs ++ us)[i]? = some (.slice ai ((L ++ M).getD i []).length ci) ∧ ((L ++ M).getD i []).length ≤ ci := fun i hi => by
  by_cases h1 : i < L.length
  · rw [show (L ++ M).getD i [] = L.getD i [] by simp [List.getD, List.getElem?_append, h1], List.getElem?_append_left (by omega)]
    exact h i h1
  · rw [List.length_append] at hi
    rw [show (L ++ M).getD i [] = M.getD (i - L.length) [] by simp [List.getD, List.getElem?_append, h1], List.getElem?_append_right (by omega), hl]
    exact k (i - L.length) (by omega)
theorem mo1 (x : Int) (U : Nat) (hU : x % 18446744073709551616 = (U : Int)) : IntKind.u64.wrap x = (U : Int) := by simp [IntKind.wrap, IntKind.bits, IntKind.signed]; omega
theorem mo2 (U nl kk : Nat) (hkk : kk = U % nl) : (U : Int).tmod (nl : Int) = (kk : Int) := by rw [hkk]; rfl
theorem mo3 (kk : Nat) (h : kk < 9223372036854775808) : wrap64 (kk : Int) = (kk : Int) := by unfold wrap64; omega
theorem mo4 (U nl kk : Nat) (hkk : kk = U / nl) : (U : Int).tdiv (nl : Int) = (kk : Int) := by rw [hkk]; rfl
theorem mo5 (nl : Nat) (h : nl < 9223372036854775808) : IntKind.u64.wrap (nl : Int) = (nl : Int) := by simp [IntKind.wrap, IntKind.bits, IntKind.signed]; omega
theorem mo6 (U nl V : Nat) (h : (U : Int).tdiv (nl : Int) = (V : Int)) (hU : U < 18446744073709551616) : IntKind.u64.wrap (V : Int) = (V : Int) := by
  have h1 : V = U / nl := by have h2 := mo4 U nl _ rfl; rw [h] at h2; exact Int.ofNat.inj h2
  have h3 : V ≤ U := by rw [h1]; exact Nat.div_le_self _ _
  simp [IntKind.wrap, IntKind.bits, IntKind.signed]; omega
theorem mo_a (x : Int) (nl : Nat) (h5 : 0 < nl) (hnl : nl ≤ 30) : ∃ U kk : Nat, U < 18446744073709551616 ∧ kk < nl ∧ IntKind.u64.wrap x = (U : Int) ∧ (U : Int).tmod (nl : Int) = (kk : Int) ∧ wrap64 (kk : Int) = (kk : Int) ∧ IntKind.u64.wrap (nl : Int) = (nl : Int) ∧ ((nl : Int) == 0) = false ∧ (kk : Int) < (nl : Int) := by
  have hk : (x % 18446744073709551616).toNat % nl < nl := Nat.mod_lt _ h5
  exact ⟨(x % 18446744073709551616).toNat, (x % 18446744073709551616).toNat % nl, by omega, hk, mo1 x _ (by omega), mo2 _ _ _ rfl, mo3 _ (by omega), mo5 nl (by omega), by rw [beq_eq_false_iff_ne]; omega, by omega⟩
theorem mo_b (U nl m : Nat) (hm1 : 1 ≤ m) (hm2 : m ≤ 2000100) : ∃ V jj : Nat, jj < m ∧ (U : Int).tdiv (nl : Int) = (V : Int) ∧ (V : Int).tmod (m : Int) = (jj : Int) ∧ IntKind.i64.wrap (jj : Int) = (jj : Int) ∧ IntKind.u64.wrap (m : Int) = (m : Int) ∧ ((m : Int) == 0) = false ∧ (jj : Int) < (m : Int) := by
  have hk : U / nl % m < m := Nat.mod_lt _ hm1
  exact ⟨U / nl, U / nl % m, hk, mo4 U nl _ rfl, mo2 _ _ _ rfl, IntWalk.i64_in _ (by omega), mo5 m (by omega), by rw [beq_eq_false_iff_ne]; omega, by omega⟩
theorem mo7 (z t : Nat) (hz : z < 256) (ht : t < 8) : bits BinOp.xor IntKind.u8 (z : Int) (IntKind.u8.wrap ((2 : Int) ^ t)) = ((z ^^^ 2 ^ t : Nat) : Int) ∧ z ^^^ 2 ^ t < 256 := by
  have h := flip_byte z t hz ht
  exact ⟨by rw [← h.1]; rfl, h.2⟩
theorem own_type {w : World} {base : Nat} {e : TypeId} {al : Option Addr} {nl cl : Nat} {vs : List Value} (h : w.ownsRow base e 1 (.slice al nl cl) nl vs) (hne : e ≠ 5) : ∀ g ∈ blk al, ∀ cur, ¬ Whole w g 5 cur := fun g hg cur hw => own_ne h hw hne (by cases al with
  | none => simp at hg
  | some x => simp at hg; subst hg; rfl)
set_option maxHeartbeats 16000000 in
theorem metaOpens_walk (a0 : Option Addr) (n0 c0 : Nat) (R : List (List Nat)) (a1 : Option Addr) (n cap : Nat) (ts : List Cm) (a2 : Option Addr) (n2 c2 : Nat) (xs : List Int) (a3 : Option Addr) (n3 c3 : Nat) (bits : List Nat) (w : World)
    (hR : LIn w a0 c0 R ∧ LCap w a0 R) (en0 : n0 = R.length) (_f0 : n0 ≤ 9223372036854775807) (h : Cms w a1 ts) (hn : n = ts.length) (hn63 : n ≤ 9223372036854775807) (hx : Is w a2 xs) (ex : n2 = xs.length) (_fx : n2 ≤ 9223372036854775807) (eb : n3 = bits.length) (hb : Bytes w a3 bits) (_g3 : n3 ≤ c3) (_k3 : a3 = none → c3 = 0) :
    Calls Tryz.prog 4 #[.slice a0 n0 c0, .slice a1 n cap, .slice a2 n2 c2, .slice a3 n3 c3] w fun e w' => e = .returned (.bool true) ∧ Below w.heap.size w w' := by
  obtain ⟨i0, hi, hz0, hz1, hz2⟩ := info_parts Tryz.info35
  have HI := Lib.hid hi; clear hi
  have HZ0 := Lib.hid hz0; clear hz0
  have HZ1 := Lib.hid hz1; clear hz1
  have HZ2 := Lib.hid hz2; clear hz2
  have HAW := Lib.hid (awake8_any w)
  have HN := Lib.hid hn
  have H := Lib.hid h
  have HRR := Lib.hid hR
  have HN0 := Lib.hid en0
  have HXS := Lib.hid hx
  have HEX := Lib.hid ex
  have HBS := Lib.hid hb
  have HEB := Lib.hid eb
  have hn3 : n3 ≤ 9223372036854775807 := by rw [eb]; exact hb.2.1
  clear h hn hR en0 hx ex hb eb
  by_cases h20 : 20 < n0
  · have hd : decide ((20 : Int) < (n0 : Int)) = true := decide_eq_true (by omega)
    have hd2 : decide (20 < n0) = true := decide_eq_true h20
    clear h20
    go_enter Tryz.func4, Tryz.ntmps4
    go_wp2_with fail
    (with_reducible refine HAW.out.mono ?_)
    rintro e w1 ⟨rfl, hb1⟩
    go_wp2
    go_ret
    exact ⟨rfl, hb1⟩
  have hd : decide ((20 : Int) < (n0 : Int)) = false := decide_eq_false (by omega)
  have hd2 : decide (20 < n0) = false := decide_eq_false h20
  by_cases h30 : 30 < n
  · have hd3 : decide ((30 : Int) < (n : Int)) = true := decide_eq_true (by omega)
    have hd4 : decide (30 < n) = true := decide_eq_true h30
    clear h20 h30
    go_enter Tryz.func4, Tryz.ntmps4
    go_wp2_with fail
    (with_reducible refine HAW.out.mono ?_)
    rintro e w1 ⟨rfl, hb1⟩
    go_wp2
    go_ret
    exact ⟨rfl, hb1⟩
  have hd3 : decide ((30 : Int) < (n : Int)) = false := decide_eq_false (by omega)
  have hd4 : decide (30 < n) = false := decide_eq_false h30
  have H20 := Lib.hid h20
  have H30 := Lib.hid h30
  clear h20 h30
  go_enter Tryz.func4, Tryz.ntmps4
  go_wp2_with fail
  (with_reducible refine HAW.out.mono ?_)
  rintro e w1 ⟨rfl, hb1⟩
  obtain ⟨w2, hw2⟩ : ∃ w2, w2 = w1.alloc (.cells #[.int .u64 0, .slice none 0 0, .int .u64 0, .slice none 0 0] 46) := ⟨_, rfl⟩
  obtain ⟨q0, hq0⟩ : ∃ q0, q0 = w1.heap.size := ⟨_, rfl⟩
  have hf1 : Frm [] w w1 := Frm.ofBelow hb1
  have hds : Ds w2 w.heap.size q0 (blk none) {} := by rw [hw2, hq0]; exact ds_new w1 _ hf1.size
  have hf2 : Frm [] w w2 := by rw [hw2]; exact hf1.alloc _
  have HR0 : Hid (MoRel w n (.pointer (some ⟨q0, 0, none⟩)) (.slice none 0 0) (.int .i64 (0 : Nat)) w2) := Lib.hid ⟨0, q0, {}, none, 0, 0, [], Nat.zero_le _, rfl, rfl, rfl, Nat.le_refl _, Lib.hid (World.ownsRow_nil _ _ _ _), Lib.hid (by simp), Lib.hid hds, Lib.hid MOk.first, Lib.hid hf2⟩
  have HW2 := Lib.hid hw2
  have HQ0 := Lib.hid hq0
  clear hb1 HAW hw2 hq0 hf1 hds hf2
  go_wp2
  rw [← HW2.out, ← HQ0.out]
  clear hd hd2 hd3 hd4 HW2 HQ0
  go_loopw [9, 10, 33] (fun s9 s10 s33 wr => MoRel w n s9 s10 s33 wr) (fun _ _ s33 _ => n - (intOf s33).toNat)
  case atStart => exact HR0.out
  case round =>
    clear HR0
    obtain ⟨k, q, S, al, nl, cl, vs, hk, rfl, rfl, rfl, hnl, HO, HRW, HD, HM, HF⟩ := hrel
    by_cases hlt : k < n
    · obtain ⟨b, off, rfl, hin⟩ := (H.out.keep HF.out) (by have := HN.out; omega)
      have hi := hin k (by have := HN.out; omega)
      obtain ⟨t, ht⟩ : ∃ t, t = ts.getD k default := ⟨_, rfl⟩
      rw [← ht] at hi
      obtain ⟨p0, p1, p2, p3, p4, p5, hok⟩ := hi
      obtain ⟨w4, hw4⟩ : ∃ w4, w4 = wr.alloc (.cells #[.int .u8 (t.k : Nat), .string t.key, .slice t.valA t.val.length t.valC, .int .u64 (t.want : Nat), .int .u64 (t.ses : Nat), .int .u64 (t.ticks : Nat)] 51) := ⟨_, rfl⟩
      obtain ⟨g, hg⟩ : ∃ g, g = wr.heap.size := ⟨_, rfl⟩
      have hW4 := Whole.made wr 51 #[.int .u8 (t.k : Nat), .string t.key, .slice t.valA t.val.length t.valC, .int .u64 (t.want : Nat), .int .u64 (t.ses : Nat), .int .u64 (t.ticks : Nat)]
      rw [← hw4, ← hg] at hW4
      have hf4 : Frm [] wr w4 := by rw [hw4]; exact (Frm.refl _ _).alloc _
      have HLO := Lib.hid (mlong_any t w4 hok.key_le (by have := hok.val_b.2.1; exact this))
      rw [show t.value = .agg #[.int .u8 (t.k : Nat), .string t.key, .slice t.valA t.val.length t.valC, .int .u64 (t.want : Nat), .int .u64 (t.ses : Nat), .int .u64 (t.ticks : Nat)] from rfl] at HLO
      have HW4 := Lib.hid hw4
      have HG := Lib.hid hg
      have HWG := Lib.hid hW4
      have HOK := Lib.hid (hok.keep hf4)
      have HBV := Lib.hid hok.val_b
      have HF4 := Lib.hid hf4
      clear hin ht hok hw4 hg hW4 hf4
      cases hlong : longB t
      · rw [hlong] at HLO
        go_wp2_with fail
        rw [← HW4.out]
        (with_reducible refine HLO.out.mono ?_)
        rintro e w5 ⟨rfl, hf5⟩
        have HCM := Lib.hid (mcmd_any t w5 HOK.out.k_lt (longB_no hlong).1)
        rw [show t.value = .agg #[.int .u8 (t.k : Nat), .string t.key, .slice t.valA t.val.length t.valC, .int .u64 (t.want : Nat), .int .u64 (t.ses : Nat), .int .u64 (t.ticks : Nat)] from rfl] at HCM
        have HCO := Lib.hid (fun key hk => cm_ok HOK.out hlong key hk)
        obtain ⟨r, hr9⟩ : ∃ r, r = t.k % 9 := ⟨_, rfl⟩
        rw [← hr9] at HCM HCO
        clear hr9
        have hW5 := hf5.whole HWG.out (by simp)
        have c0' := hW5.cell 0
        have c1' := hW5.cell 1
        have c2' := hW5.cell 2
        have c3' := hW5.cell 3
        have c4' := hW5.cell 4
        have c5' := hW5.cell 5
        simp at c0' c1' c2' c3' c4' c5'
        have HW5 := Lib.hid hW5
        have HF5 := Lib.hid (HF4.out.trans hf5 (U := []) (by simp) (by simp))
        rw [← HG.out]
        clear hf5 hW5 HLO p0 p1 p2 p3 p4 p5
        go_wp2_with fail
        (with_reducible refine HCM.out.mono ?_)
        rintro e w6 ⟨key, hks, rfl, hf6⟩
        obtain ⟨c, hc⟩ : ∃ c : MC, c = ⟨r, key, t.val, t.want, t.ses, t.ticks⟩ := ⟨_, rfl⟩
        have HC := Lib.hid (HCO.out key hks)
        rw [← hc] at HC
        have HCV : Hid (cmdV c t.valA t.valC = .agg #[.int .u8 (r : Nat), .string key, .slice t.valA t.val.length t.valC, .int .u64 (t.want : Nat), .int .u64 (t.ses : Nat), .int .u64 (t.ticks : Nat)]) := Lib.hid (by rw [hc]; rfl)
        have HCL : Hid (c.val = t.val) := Lib.hid (by rw [hc])
        clear hc
        obtain ⟨w7, hw7⟩ : ∃ w7, w7 = (((((w6.setCell ⟨g, 0, none⟩ (.int .u8 (r : Nat))).setCell ⟨g, 1, none⟩ (.string key)).setCell ⟨g, 2, none⟩ (.slice t.valA t.val.length t.valC)).setCell ⟨g, 3, none⟩ (.int .u64 (t.want : Nat))).setCell ⟨g, 4, none⟩ (.int .u64 (t.ses : Nat))).setCell ⟨g, 5, none⟩ (.int .u64 (t.ticks : Nat)) := ⟨_, rfl⟩
        have h6 := hf6.whole HW5.out (by simp)
        have h7 : Whole w7 g 51 #[.int .u8 (r : Nat), .string key, .slice t.valA t.val.length t.valC, .int .u64 (t.want : Nat), .int .u64 (t.ses : Nat), .int .u64 (t.ticks : Nat)] := by
          have := (((((h6.put 0 (.int .u8 (r : Nat))).put 1 (.string key)).put 2 (.slice t.valA t.val.length t.valC)).put 3 (.int .u64 (t.want : Nat))).put 4 (.int .u64 (t.ses : Nat))).put 5 (.int .u64 (t.ticks : Nat))
          rw [hw7]; simpa using this
        have hf7 : Frm [] wr w7 := by
          have h0 : Frm [] wr w6 := HF5.out.trans hf6 (U := []) (by simp) (by simp)
          have hg2 : wr.heap.size ≤ g := by have := HG.out; omega
          rw [hw7]
          exact (((((h0.setCell (.inr hg2) _).setCell (.inr hg2) _).setCell (.inr hg2) _).setCell (.inr hg2) _).setCell (.inr hg2) _).setCell (.inr hg2) _
        have HF7 := Lib.hid hf7
        have HW7 := Lib.hid h7
        have HE7 := Lib.hid hw7
        have hD7 := HD.out.keep hf7 (by simp) (by simp)
        have hol : ∀ x ∈ blk al, w.heap.size ≤ x ∧ x < wr.heap.size := fun x hx => World.ownsRow.lt HO.out x (ownBlk3.2 hx)
        have hal7 : ∀ x ∈ blk al, x < w7.heap.size := fun x hx => Nat.lt_of_lt_of_le (hol x hx).2 hf7.size
        obtain ⟨ta, tn, tc, ba, bn, bc, s1, s3, CP⟩ := hD7.cells hal7
        have s0 := hD7.n0
        have s2 := hD7.c2
        obtain ⟨w8, hw8⟩ : ∃ w8, w8 = w7.alloc (.cells #[.int .u64 (S.now : Nat), .slice ta tn tc, .int .u64 (S.last : Nat), .slice ba bn bc] 46) := ⟨_, rfl⟩
        obtain ⟨p, hp⟩ : ∃ p, p = w7.heap.size := ⟨_, rfl⟩
        have hW8 := Whole.made w7 46 #[.int .u64 (S.now : Nat), .slice ta tn tc, .int .u64 (S.last : Nat), .slice ba bn bc]
        rw [← hw8, ← hp] at hW8
        have hf8 : Frm [] w7 w8 := by rw [hw8]; exact (Frm.refl _ _).alloc _
        have hD8 : Ds w8 w.heap.size p (q :: blk al) S := CP w8 p hf8 (by omega) hW8
        have hgp : g ≠ p := by have := h7.lt; omega
        have HFW8 := Lib.hid ((HF.out.trans hf7 (U := []) (by simp) (by simp)).trans hf8 (U := []) (by simp) (by simp))
        have HQB : Hid (∀ x ∈ q :: blk al, x < w8.heap.size) := Lib.hid fun x hx => by
          have h1 := hf8.size
          rcases List.mem_cons.1 hx with rfl | hx
          · have := hD7.plt; omega
          · have := hal7 x hx; omega
        have HDO := Lib.hid (rdo_any c t.valA t.valC hD8 HM.out HC.out HQB.out (by rw [HCL.out]; exact (hf7.trans hf8 (U := []) (by simp) (by simp)).bytes HBV.out (by simp)) HOK.out.val_nil)
        rw [HCV.out] at HDO
        unfold RdEnd at HDO
        obtain ⟨en, hen⟩ : ∃ en, en = doE S c := ⟨_, rfl⟩
        rw [← hen] at HDO
        have HEN := Lib.hid hen
        have HE8 := Lib.hid hw8
        have HP := Lib.hid hp
        have HGP := Lib.hid hgp
        have HWG8 := Lib.hid (hf8.whole h7 (by simp))
        have HPW : Hid (wr.heap.size ≤ p) := Lib.hid (by have := hf7.size; omega)
        have HF78 := Lib.hid (hf7.trans hf8 (U := []) (by simp) (by simp))
        have y0 := (hf8.whole h7 (by simp)).cell 0
        have y1 := (hf8.whole h7 (by simp)).cell 1
        have y2 := (hf8.whole h7 (by simp)).cell 2
        have y3 := (hf8.whole h7 (by simp)).cell 3
        have y4 := (hf8.whole h7 (by simp)).cell 4
        have y5 := (hf8.whole h7 (by simp)).cell 5
        have b0 := h6.cell 0
        have b1 := h6.cell 1
        have b2 := h6.cell 2
        have b3 := h6.cell 3
        have b4 := h6.cell 4
        have b5 := h6.cell 5
        have k0 := h6.free 0
        have k1 := h6.free 1
        have k2 := h6.free 2
        have k3 := h6.free 3
        have k4 := h6.free 4
        have k5 := h6.free 5
        simp at b0 b1 b2 b3 b4 b5
        have HO2 := HO
        simp at y0 y1 y2 y3 y4 y5
        rw [hw8] at y0 y1 y2 y3 y4 y5
        clear hf6 h6 h7 hf7 hw7 HCM HCO c0' c1' c2' c3' c4' c5' hD7 hol hal7 CP hw8 hp hW8 hf8 hD8 hgp hen
        go_upto_region 13 with (fail)
        rw [← HE7.out]
        clear b0 b1 b2 b3 b4 b5 k0 k1 k2 k3 k4 k5
        go_wp2_with fail
        rw [← HE8.out, ← HP.out]
        clear y0 y1 y2 y3 y4 y5 s0 s1 s2 s3
        (with_reducible refine HDO.out.mono ?_)
        rintro e w9 ⟨ga, gc, rfl, _, _, hd9, hf9, _⟩
        have HF9 : Hid (Frm [] wr w9) := Lib.hid (HF78.out.trans hf9 (by simp) (fun x hx => .inr (by simp at hx; have := HPW.out; omega)))
        have HD9 := Lib.hid hd9
        have hW9 := hf9.whole HWG8.out (by simpa using HGP.out)
        have HWG9 := Lib.hid hW9
        have HFW9 := Lib.hid (HF.out.trans HF9.out (U := []) (by simp) (by simp))
        have hs89 := hf9.size
        clear hd9 hf9 HDO
        by_cases hz : en = 0
        · subst hz
          have HQ9 : Hid (∀ x ∈ q :: blk al, x < w9.heap.size) := Lib.hid fun x hx => Nat.lt_of_lt_of_le (HQB.out x hx) hs89
          have HRE := Lib.hid (rrec_any c t.valA t.valC HD9.out (HM.out.does HC.out) HC.out HQ9.out (by rw [HCL.out]; exact HF9.out.bytes HBV.out (by simp)) HOK.out.val_nil)
          rw [HCV.out] at HRE
          obtain ⟨rl, hrl⟩ : ∃ rl, rl = recB (doS S c) c := ⟨_, rfl⟩
          rw [← hrl] at HRE
          have HRL : Hid (1 ≤ rl.length ∧ rl.length ≤ 2000100 ∧ ∀ x ∈ rl, x < 256) := Lib.hid (by
            rw [hrl]
            refine ⟨by unfold recB; rw [List.length_append, be_length]; omega, ?_, recB_lt HC.out HD9.out.v8⟩
            unfold recB
            rw [List.length_append, be_length]
            split
            · have := encS_len (HM.out.does HC.out); omega
            · have h1 := HC.out.key
              have h2 := HC.out.val.1
              unfold encC cb
              simp only [List.length_append, be_length, strL_length]
              omega)
          have y0 := hW9.cell 0
          have y1 := hW9.cell 1
          have y2 := hW9.cell 2
          have y3 := hW9.cell 3
          have y4 := hW9.cell 4
          have y5 := hW9.cell 5
          simp at y0 y1 y2 y3 y4 y5
          clear hrl hW9 hs89
          go_wp2_with fail
          (with_reducible refine HRE.out.mono ?_)
          rintro e w10 ⟨ra, rn, rc, LR, rfl, RR⟩
          clear y0 y1 y2 y3 y4 y5 HRE
          have HRWN := Lib.hid (RowW.of RR.out LR.out HRL.out.1 HRL.out.2.1 HRL.out.2.2)
          obtain ⟨w11, hw11⟩ : ∃ w11, w11 = w10.alloc (.cells #[.slice ra rn rc] 35) := ⟨_, rfl⟩
          have hf1011 : Frm [] w10 w11 := by rw [hw11]; exact (Frm.refl _ _).alloc _
          have HV : Hid (ValsAt w11 (some ⟨w10.heap.size, 0, none⟩) [.slice ra rn rc]) := Lib.hid (by rw [hw11]; exact ValsAt.one _ _ _)
          have HF911 : Hid (Frm [] w9 w11) := Lib.hid (RR.out.frm.trans hf1011 (U := []) (by simp) (by simp))
          have HFR11 : Hid (Frm [] wr w11) := Lib.hid (HF9.out.trans HF911.out (U := []) (by simp) (by simp))
          have HO11 := Lib.hid (HFR11.out.own HO.out (by simp))
          have HRWN2 := Lib.hid (HRWN.out.same hf1011)
          have HW11 := Lib.hid hw11
          have hk30 : nl ≤ 30 := by have := H30.out; omega
          have HSZ : Hid (w.heap.size ≤ w11.heap.size) := Lib.hid (HF.out.trans HFR11.out (U := []) (by simp) (by simp)).size
          clear hw11 hf1011 RR LR HRWN
          go_wp2_with (at_builtin; rw [← HW11.out]; refine wpList_appV rfl (.tmp 52) (.tmp 55) 65 rfl w.heap.size 35 i0 (.slice none 0 0) 24 Tryz.underlying65 HI.out HZ0.out rfl HZ1.out HZ2.out (by decide) (.slice al nl cl) nl _ rfl HO11.out (some ⟨w10.heap.size, 0, none⟩) 1 1 [.slice ra rn rc] rfl HV.out rfl (fun u hu => by simp at hu; subst hu; rfl) (fun h => by cases h) (by omega) HSZ.out ?_)
          intro al2 cl2 w12 happ
          have hf12 : Frm (blk al) w11 w12 := (Frm.refl _ _).grown happ.grown (fun x hx => .inl (ownBlk3.1 hx))
          have hpl : ∀ x ∈ blk al2, x ∈ blk al ∨ w11.heap.size ≤ x := fun x hx => by
            have hg' := (ownBlk3 (n := nl + 1) (c := cl2)).2 hx
            rcases happ.place with h1 | h1
            · exact .inl (ownBlk3.1 (h1 ▸ hg'))
            · rw [hg'] at h1; cases h1; exact .inr (Nat.le_refl _)
          have hty := own_type HO11.out (by decide)
          have hol : ∀ x ∈ blk al, w.heap.size ≤ x := fun x hx => (World.ownsRow.lt HO.out x (ownBlk3.2 hx)).1
          have hrows : ∀ u ∈ vs ++ [.slice ra rn rc], RowW w12 w.heap.size u := fun u hu => by
            rcases List.mem_append.1 hu with hu | hu
            · exact ((HRW.out u hu).same HFR11.out).keep hf12 hty
            · simp at hu; subst hu; exact (HRWN2.out.keep hf12 hty).low HFW9.out.size
          have hds : Ds w12 w.heap.size p (blk al2) (doS S c) := by
            have h1 := HD9.out.keep HF911.out (by simp) (by simp)
            have hpa : p ∉ blk al := fun hm => h1.out (List.mem_cons_of_mem _ hm)
            exact ((h1.more (F' := blk al ++ blk al2) (Frm.refl _ _) (fun x hx => by
              rcases List.mem_append.1 hx with h | h
              · exact .inl (List.mem_cons_of_mem _ h)
              · exact (hpl x h).imp (fun h => List.mem_cons_of_mem _ h) id)).keep hf12 hpa (fun x hx => .inl (List.mem_cons_of_mem _ (List.mem_append_left _ hx)))).more (Frm.refl _ _) (fun x hx => .inl (List.mem_append_right _ hx))
          have hfw : Frm [] w w12 := (HF.out.trans HFR11.out (U := []) (by simp) (by simp)).trans hf12 (by simp) (fun x hx => .inr (hol x hx))
          have HREL : Hid (MoRel w n (.pointer (some ⟨p, 0, none⟩)) (.slice al2 (nl + 1) cl2) (.int .i64 ((k + 1 : Nat) : Nat)) w12) := Lib.hid ⟨k + 1, p, doS S c, al2, nl + 1, cl2, vs ++ [.slice ra rn rc], hlt, rfl, rfl, rfl, by omega, Lib.hid happ.own, Lib.hid hrows, Lib.hid hds, Lib.hid (HM.out.does HC.out), Lib.hid hfw⟩
          clear happ hf12 hpl hty hol hrows hds hfw
          go_wp2
          go_roundw
          case rel => exact HREL.out
          case measure => simp [intOf]; omega
        · have hne : ((en : Int) == 0) = false := by rw [beq_eq_false_iff_ne]; omega
          have HREL : Hid (∀ z, Frm [] w9 z → MoRel w n (.pointer (some ⟨q, 0, none⟩)) (.slice al nl cl) (.int .i64 ((k + 1 : Nat) : Nat)) z) := Lib.hid fun z hz => by
            have hf := HF9.out.trans hz (U := []) (by simp) (by simp)
            exact ⟨k + 1, q, S, al, nl, cl, vs, hlt, rfl, rfl, rfl, by omega, Lib.hid (hf.own HO.out (by simp)), Lib.hid (fun u hu => (HRW.out u hu).same hf), Lib.hid (HD.out.keep hf (by simp) (by simp)), HM, Lib.hid (HF.out.trans hf (by simp) (by simp))⟩
          clear hz hW9
          go_wp2
          go_roundw
          case rel => exact HREL.out _ (Frm.refl _ _)
          case measure => simp [intOf]; omega
      · rw [hlong] at HLO
        go_wp2_with fail
        rw [← HW4.out]
        (with_reducible refine HLO.out.mono ?_)
        rintro e w5 ⟨rfl, hf5⟩
        have HE := Lib.hid (HF.out.trans (HF4.out.trans hf5 (U := []) (by simp) (by simp)) (U := []) (by simp) (by simp))
        clear hf5 HLO p0 p1 p2 p3 p4 p5
        go_wp2
        go_ret
        exact ⟨rfl, HE.out.below (by simp) (Nat.le_refl _)⟩
    · obtain rfl : k = n := by omega
      have hnl30 : nl ≤ 30 := by have := H30.out; omega
      have HR0 : Hid (M2Rel w al nl cl vs (.int .i64 (0 : Nat)) wr) := Lib.hid ⟨0, by omega, rfl, HO, HRW, HF⟩
      clear HO HRW HD HM HF hlt hk hnl
      go_wp2
      go_loopw [17] (fun s17 wr => M2Rel w al nl cl vs s17 wr) (fun s17 _ => 3 - (intOf s17).toNat)
      case atStart => exact HR0.out
      case round =>
        clear HR0
        obtain ⟨i, hi, rfl, HO, HRW, HF⟩ := hrel
        by_cases h2 : i < n2
        · by_cases h3 : i < n3
          · by_cases h4 : i < 3
            · by_cases h5 : 0 < nl
              · have d2 : decide ((i : Int) < (n2 : Int)) = true := decide_eq_true (by omega)
                have d2' : decide (i < n2) = true := decide_eq_true h2
                have d3 : decide ((i : Int) < (n3 : Int)) = true := decide_eq_true (by omega)
                have d3' : decide (i < n3) = true := decide_eq_true h3
                have d4 : decide ((i : Int) < 3) = true := decide_eq_true (by omega)
                have d4' : decide (i < 3) = true := decide_eq_true h4
                have d5 : decide ((0 : Int) < (nl : Int)) = true := decide_eq_true (by omega)
                have d5' : decide (0 < nl) = true := decide_eq_true h5
                obtain ⟨⟨hx1, hx2⟩, b2, o2, rfl, px⟩ := (HXS.out.keep HF.out) i (by rw [← HEX.out]; exact h2)
                obtain ⟨x, hxx⟩ : ∃ x, x = xs.getD i 0 := ⟨_, rfl⟩
                rw [← hxx] at hx1 hx2 px
                obtain ⟨b3, o3, rfl, py⟩ : ∃ b3 o3, a3 = some ⟨b3, o3, none⟩ ∧ wr.cell? ⟨b3, o3 + i, none⟩ = some (.int .u8 (bits.getD i 0 : Nat)) := by
                  have h := HF.out.bytes HBS.out (by simp)
                  rcases h.2.2 with h | ⟨b3, o3, e, hc⟩
                  · have := HEB.out; rw [h] at this; simp at this; omega
                  · exact ⟨b3, o3, e, hc i (by rw [← HEB.out]; exact h3)⟩
                have hy8 := getD_lt HBS.out.1 i
                obtain ⟨y, hyy⟩ : ∃ y, y = bits.getD i 0 := ⟨_, rfl⟩
                rw [← hyy] at hy8 py
                obtain ⟨U, kk, hU64, hkl, hEA⟩ := mo_a x nl h5 hnl30
                have HEA := Lib.hid hEA
                clear hEA
                have hvl : vs.length = nl := by have := HO.out.1; omega
                obtain ⟨u, hu⟩ : ∃ u, vs[kk]? = some u := ⟨vs[kk]'(by rw [hvl]; exact hkl), List.getElem?_eq_getElem (by rw [hvl]; exact hkl)⟩
                obtain ⟨g, m, c, cur, rfl, hgB, hWg, hm1, hmc, hms, hm2, hbyte⟩ := HRW.out u (List.mem_of_getElem? hu)
                obtain ⟨b, off, rfl, pr⟩ : ∃ b off, al = some ⟨b, off, none⟩ ∧ wr.cell? ⟨b, off + kk, none⟩ = some (.slice (some ⟨g, 0, none⟩) m c) := by
                  rcases own_vals HO.out with h | ⟨b, off, e, hc⟩
                  · rw [h] at hu; simp at hu
                  · exact ⟨b, off, e, hc kk _ hu⟩
                have HU : Hid (U < 18446744073709551616) := Lib.hid hU64
                clear hU64
                obtain ⟨V, jj, hjm, hEB⟩ := mo_b U nl m hm1 hm2
                have HEB2 := Lib.hid hEB
                have HEBM : Hid (m ≤ 2000100) := Lib.hid hm2
                clear hEB
                obtain ⟨z0, hz0, hz1⟩ := hbyte jj hjm
                have hcg : wr.cell? ⟨g, jj, none⟩ = some (.int .u8 (z0 : Nat)) := (hWg.cell jj).trans hz1
                have hfg : wr.frozen? ⟨g, jj, none⟩ = false := hWg.free jj
                have i2 : (i : Int) < (n2 : Int) := Int.ofNat_lt.2 h2
                have i3 : (i : Int) < (n3 : Int) := Int.ofNat_lt.2 h3
                have HWGR := Lib.hid hWg
                have HN00 : Hid (¬ nl = 0 ∧ ¬ m = 0 ∧ ∃ t8 : Nat, t8 < 8 ∧ (y : Int).tmod 8 = (t8 : Int)) := Lib.hid ⟨Nat.pos_iff_ne_zero.1 h5, Nat.pos_iff_ne_zero.1 hm1, y % 8, Nat.mod_lt _ (by decide), rfl⟩
                have hb2 : b2 < w.heap.size := by
                  obtain ⟨_, b2x, o2x, e, hc⟩ := HXS.out i (by rw [← HEX.out]; exact h2)
                  cases e
                  exact block_lt_of_cell hc
                have hb3 : b3 < w.heap.size := bytes_lt HBS.out (fun h => by have h1 := HEB.out; rw [h] at h1; simp at h1; rw [h1] at h3; exact absurd h3 (Nat.not_lt_zero _)) _ rfl
                have hg2 : b2 ∉ [g] := by simp; intro h; rw [h] at hb2; exact absurd hgB (Nat.not_le.2 hb2)
                have hg3 : b3 ∉ [g] := by simp; intro h; rw [h] at hb3; exact absurd hgB (Nat.not_le.2 hb3)
                have PX : Hid (∀ z, Frm [g] wr z → z.cell? ⟨b2, o2 + i, none⟩ = some (.int .i64 x)) := Lib.hid fun z hz => (hz.cell (p := ⟨b2, o2 + i, none⟩) (Nat.lt_of_lt_of_le hb2 HF.out.size) hg2).trans px
                have PY : Hid (∀ z, Frm [g] wr z → z.cell? ⟨b3, o3 + i, none⟩ = some (.int .u8 (y : Nat))) := Lib.hid fun z hz => (hz.cell (p := ⟨b3, o3 + i, none⟩) (Nat.lt_of_lt_of_le hb3 HF.out.size) hg3).trans py
                have HGB := Lib.hid hgB
                clear hb2 hb3 hg2 hg3
                have HZ8 := Lib.hid hz0
                have HY8 := Lib.hid hy8
                clear hxx hyy hx1 hx2 hvl hu hbyte hWg hz0 hz1 hgB hmc hms hm2 h2 h3 h5
                have E1 : wrap64 ((IntKind.u64.wrap x).tmod (nl : Int)) = (kk : Int) := by obtain ⟨e1, e2, e3, e7, b1, hk2⟩ := HEA.out; rw [e1, e2, e3]
                have E2 : Hid (IntKind.i64.wrap ((IntKind.u64.wrap ((IntKind.u64.wrap x).tdiv (nl : Int))).tmod (m : Int)) = (jj : Int)) := Lib.hid (by obtain ⟨e1, e2, e3, e7, b1, hk2⟩ := HEA.out; obtain ⟨e4, e5, e6, e8, b2', hj2⟩ := HEB2.out; rw [e1, e4, mo6 U nl V e4 HU.out, e5, e6])
                have b1 : ((nl : Int) == 0) = false := HEA.out.2.2.2.2.1
                have hk2 : (kk : Int) < (nl : Int) := HEA.out.2.2.2.2.2
                have b2' : Hid (((m : Int) == 0) = false ∧ (jj : Int) < (m : Int)) := Lib.hid ⟨HEB2.out.2.2.2.2.1, HEB2.out.2.2.2.2.2⟩
                have E7 : Hid (IntKind.u64.wrap (nl : Int) = (nl : Int)) := Lib.hid HEA.out.2.2.2.1
                have E8 : Hid (IntKind.u64.wrap (m : Int) = (m : Int)) := Lib.hid HEB2.out.2.2.2.1
                have B1 := Lib.hid b1
                clear hkl hjm HEA HEB2
                go_wp2
                clear px py pr E1 b1 hk2
                have qx := PX.out
                have qy := PY.out
                have e2 := E2.out
                have b1 := B1.out
                have e7 := E7.out
                have e8 := E8.out
                have bm := b2'.out.1
                have hn0 : ¬ nl = 0 := HN00.out.1
                have hm0 : ¬ m = 0 := HN00.out.2.1
                obtain ⟨t8, ht8, et8⟩ : ∃ t8 : Nat, t8 < 8 ∧ (y : Int).tmod 8 = (t8 : Int) := HN00.out.2.2
                have hj2 := b2'.out.2
                refine wp_region_held_drew (S := fun w' => Frm [g] wr w') (by kernel_rfl) (Frm.drew (Frm.refl _ _)) (fun hHeld => ?_)
                refine wpAnyH_take (i := 0) (oi := ⟨some 92, _, _, _, _, _⟩) (v := ?_) rfl (by kernel_rfl) (by kernel_rfl) (by kernel_rfl) (fun _ _ _ h => h) (Or.inl ⟨by rfl, ?_⟩) (by assumption) ?_
                rotate_left 1
                · (intro w hSw; (try dsimp only at hSw); go_simp; all_goals with_reducible rfl)
                try simp only [Act.put, List.setIfInBounds_toArray, List.set_cons_zero, List.set_cons_succ]
                refine wpAnyH_take (i := 1) (oi := ⟨some 93, _, _, _, _, _⟩) (v := ?_) rfl (by kernel_rfl) (by kernel_rfl) (by kernel_rfl) (fun _ _ _ h => h) (Or.inl ⟨by rfl, ?_⟩) (by assumption) ?_
                rotate_left 1
                · (intro w hSw; (try dsimp only at hSw); go_simp; all_goals with_reducible rfl)
                try simp only [Act.put, List.setIfInBounds_toArray, List.set_cons_zero, List.set_cons_succ]
                refine wpAnyH_take (i := 2) (oi := ⟨some 94, _, _, _, _, _⟩) (v := ?_) rfl (by kernel_rfl) (by kernel_rfl) (by kernel_rfl) (fun _ _ _ h => h) (Or.inl ⟨by rfl, ?_⟩) (by assumption) ?_
                rotate_left 1
                · (intro w hSw; (try dsimp only at hSw); go_simp; all_goals with_reducible rfl)
                try simp only [Act.put, List.setIfInBounds_toArray, List.set_cons_zero, List.set_cons_succ]
                refine wpAnyH_take (i := 3) (oi := ⟨some 95, _, _, _, _, _⟩) (v := ?_) rfl (by kernel_rfl) (by kernel_rfl) (by kernel_rfl) (fun _ _ _ h => h) (Or.inl ⟨by rfl, ?_⟩) (by assumption) ?_
                rotate_left 1
                · (intro w hSw; (try dsimp only at hSw); go_simp; all_goals with_reducible rfl)
                try simp only [Act.put, List.setIfInBounds_toArray, List.set_cons_zero, List.set_cons_succ]
                refine wpAnyH_take (i := 4) (oi := ⟨some 96, _, _, _, _, _⟩) (v := ?_) rfl (by kernel_rfl) (by kernel_rfl) (by kernel_rfl) (fun _ _ _ h => h) (Or.inl ⟨by rfl, ?_⟩) (by assumption) ?_
                rotate_left 1
                · (intro w hSw; (try dsimp only at hSw); go_simp; all_goals with_reducible rfl)
                try simp only [Act.put, List.setIfInBounds_toArray, List.set_cons_zero, List.set_cons_succ]
                refine wpAnyH_take (i := 5) (oi := ⟨some 97, _, _, _, _, _⟩) (v := ?_) rfl (by kernel_rfl) (by kernel_rfl) (by kernel_rfl) (fun _ _ _ h => h) (Or.inl ⟨by rfl, ?_⟩) (by assumption) ?_
                rotate_left 1
                · (intro w hSw; (try dsimp only at hSw); go_simp; all_goals with_reducible rfl)
                try simp only [Act.put, List.setIfInBounds_toArray, List.set_cons_zero, List.set_cons_succ]
                refine wpAnyH_take (i := 6) (oi := ⟨some 98, _, _, _, _, _⟩) (v := ?_) rfl (by kernel_rfl) (by kernel_rfl) (by kernel_rfl) (fun _ _ _ h => h) (Or.inl ⟨by rfl, ?_⟩) (by assumption) ?_
                rotate_left 1
                · (intro w hSw; (try dsimp only at hSw); go_simp; all_goals with_reducible rfl)
                try simp only [Act.put, List.setIfInBounds_toArray, List.set_cons_zero, List.set_cons_succ]
                refine wpAnyH_take (i := 7) (oi := ⟨some 99, _, _, _, _, _⟩) (v := ?_) rfl (by kernel_rfl) (by kernel_rfl) (by kernel_rfl) (fun _ _ _ h => h) (Or.inl ⟨by rfl, ?_⟩) (by assumption) ?_
                rotate_left 1
                · (intro w hSw; (try dsimp only at hSw); go_simp; all_goals with_reducible rfl)
                try simp only [Act.put, List.setIfInBounds_toArray, List.set_cons_zero, List.set_cons_succ]
                refine wpAnyH_take (i := 8) (oi := ⟨some 100, _, _, _, _, _⟩) (v := ?_) rfl (by kernel_rfl) (by kernel_rfl) (by kernel_rfl) (fun _ _ _ h => h) (Or.inl ⟨by rfl, ?_⟩) (by assumption) ?_
                rotate_left 1
                · (intro w hSw; (try dsimp only at hSw); go_simp; all_goals with_reducible rfl)
                try simp only [Act.put, List.setIfInBounds_toArray, List.set_cons_zero, List.set_cons_succ]
                refine wpAnyH_take (i := 9) (oi := ⟨some 101, _, _, _, _, _⟩) (v := ?_) rfl (by kernel_rfl) (by kernel_rfl) (by kernel_rfl) (fun _ _ _ h => h) (Or.inl ⟨by rfl, ?_⟩) (by assumption) ?_
                rotate_left 1
                · (intro w hSw; (try dsimp only at hSw); go_simp; all_goals with_reducible rfl)
                try simp only [Act.put, List.setIfInBounds_toArray, List.set_cons_zero, List.set_cons_succ]
                refine wpAnyH_take (i := 10) (oi := ⟨some 102, _, _, _, _, _⟩) (v := ?_) rfl (by kernel_rfl) (by kernel_rfl) (by kernel_rfl) (fun _ _ _ h => h) (Or.inl ⟨by rfl, ?_⟩) (by assumption) ?_
                rotate_left 1
                · (intro w hSw; (try dsimp only at hSw); go_simp; all_goals with_reducible rfl)
                try simp only [Act.put, List.setIfInBounds_toArray, List.set_cons_zero, List.set_cons_succ]
                refine wpAnyH_take (i := 11) (oi := ⟨some 103, _, _, _, _, _⟩) (v := ?_) rfl (by kernel_rfl) (by kernel_rfl) (by kernel_rfl) (fun _ _ _ h => h) (Or.inl ⟨by rfl, ?_⟩) (by assumption) ?_
                rotate_left 1
                · (intro w hSw; (try dsimp only at hSw); go_simp; all_goals with_reducible rfl)
                try simp only [Act.put, List.setIfInBounds_toArray, List.set_cons_zero, List.set_cons_succ]
                refine wpAnyH_take (i := 12) (oi := ⟨some 104, _, _, _, _, _⟩) (v := ?_) rfl (by kernel_rfl) (by kernel_rfl) (by kernel_rfl) (fun _ _ _ h => h) (Or.inl ⟨by rfl, ?_⟩) (by assumption) ?_
                rotate_left 1
                · (intro w hSw; (try dsimp only at hSw); go_simp; all_goals with_reducible rfl)
                try simp only [Act.put, List.setIfInBounds_toArray, List.set_cons_zero, List.set_cons_succ]
                refine wpAnyH_take (i := 13) (oi := ⟨some 105, _, _, _, _, _⟩) (v := ?_) rfl (by kernel_rfl) (by kernel_rfl) (by kernel_rfl) (fun _ _ _ h => h) (Or.inl ⟨by rfl, ?_⟩) (by assumption) ?_
                rotate_left 1
                · (intro w hSw; (try dsimp only at hSw); go_simp; all_goals with_reducible rfl)
                try simp only [Act.put, List.setIfInBounds_toArray, List.set_cons_zero, List.set_cons_succ]
                refine wpAnyH_take (i := 14) (oi := ⟨some 106, _, _, _, _, _⟩) (v := ?_) rfl (by kernel_rfl) (by kernel_rfl) (by kernel_rfl) (fun _ _ _ h => h) (Or.inl ⟨by rfl, ?_⟩) (by assumption) ?_
                rotate_left 1
                · (intro w hSw; (try dsimp only at hSw); go_simp; all_goals with_reducible rfl)
                try simp only [Act.put, List.setIfInBounds_toArray, List.set_cons_zero, List.set_cons_succ]
                refine wpAnyH_take (i := 15) (oi := ⟨some 107, _, _, _, _, _⟩) (v := ?_) rfl (by kernel_rfl) (by kernel_rfl) (by kernel_rfl) (fun _ _ _ h => h) (Or.inl ⟨by rfl, ?_⟩) (by assumption) ?_
                rotate_left 1
                · (intro w hSw; (try dsimp only at hSw); go_simp; all_goals with_reducible rfl)
                try simp only [Act.put, List.setIfInBounds_toArray, List.set_cons_zero, List.set_cons_succ]
                refine wpAnyH_take (i := 17) (oi := ⟨some 109, _, _, _, _, _⟩) (v := ?_) rfl (by kernel_rfl) (by kernel_rfl) (by kernel_rfl) (fun _ _ _ h => h) (Or.inl ⟨by rfl, ?_⟩) (by assumption) ?_
                rotate_left 1
                · (intro w hSw; (try dsimp only at hSw); go_simp; all_goals with_reducible rfl)
                try simp only [Act.put, List.setIfInBounds_toArray, List.set_cons_zero, List.set_cons_succ]
                refine wpAnyH_take (i := 18) (oi := ⟨some 110, _, _, _, _, _⟩) (v := ?_) rfl (by kernel_rfl) (by kernel_rfl) (by kernel_rfl) (fun _ _ _ h => h) (Or.inl ⟨by rfl, ?_⟩) (by assumption) ?_
                rotate_left 1
                · (intro w hSw; (try dsimp only at hSw); go_simp; all_goals with_reducible rfl)
                try simp only [Act.put, List.setIfInBounds_toArray, List.set_cons_zero, List.set_cons_succ]
                refine wpAnyH_take (i := 19) (oi := ⟨some 111, _, _, _, _, _⟩) (v := ?_) rfl (by kernel_rfl) (by kernel_rfl) (by kernel_rfl) (fun _ _ _ h => h) (Or.inl ⟨by rfl, ?_⟩) (by assumption) ?_
                rotate_left 1
                · (intro w hSw; (try dsimp only at hSw); go_simp; all_goals with_reducible rfl)
                try simp only [Act.put, List.setIfInBounds_toArray, List.set_cons_zero, List.set_cons_succ]
                refine wpAnyH_take (i := 20) (oi := ⟨some 112, _, _, _, _, _⟩) (v := ?_) rfl (by kernel_rfl) (by kernel_rfl) (by kernel_rfl) (fun _ _ _ h => h) (Or.inl ⟨by rfl, ?_⟩) (by assumption) ?_
                rotate_left 1
                · (intro w hSw; (try dsimp only at hSw); go_simp; all_goals with_reducible rfl)
                try simp only [Act.put, List.setIfInBounds_toArray, List.set_cons_zero, List.set_cons_succ]
                refine wpAnyH_take (i := 21) (oi := ⟨some 113, _, _, _, _, _⟩) (v := ?_) rfl (by kernel_rfl) (by kernel_rfl) (by kernel_rfl) (fun _ _ _ h => h) (Or.inl ⟨by rfl, ?_⟩) (by assumption) ?_
                rotate_left 1
                · (intro w hSw; (try dsimp only at hSw); go_simp; all_goals with_reducible rfl)
                try simp only [Act.put, List.setIfInBounds_toArray, List.set_cons_zero, List.set_cons_succ]
                refine wpAnyH_take (i := 22) (oi := ⟨some 114, _, _, _, _, _⟩) (v := ?_) rfl (by kernel_rfl) (by kernel_rfl) (by kernel_rfl) (fun _ _ _ h => h) (Or.inl ⟨by rfl, ?_⟩) (by assumption) ?_
                rotate_left 1
                · (intro w hSw; (try dsimp only at hSw); go_simp; all_goals with_reducible rfl)
                try simp only [Act.put, List.setIfInBounds_toArray, List.set_cons_zero, List.set_cons_succ]
                refine wpAnyH_ready (rs := [16]) (by kernel_rfl) (by simp) ?_
                refine AllReadyH.cons (o := ⟨some 108, _, _, _, _, _⟩) rfl (fun K hK => ?_) AllReadyH.nil
                go_simp
                refine hK.out _ _ (by assumption) (fun hHeld => ?_)
                clear hK K
                try simp only [Act.put, List.setIfInBounds_toArray, List.set_cons_zero, List.set_cons_succ]
                refine wpAnyH_take (i := 23) (oi := ⟨some 115, _, _, _, _, _⟩) (v := ?_) rfl (by kernel_rfl) (by kernel_rfl) (by kernel_rfl) (fun _ _ _ h => h) (Or.inl ⟨by rfl, ?_⟩) (by assumption) ?_
                rotate_left 1
                · (intro w hSw; (try dsimp only at hSw); go_simp; all_goals with_reducible rfl)
                try simp only [Act.put, List.setIfInBounds_toArray, List.set_cons_zero, List.set_cons_succ]
                refine wpAnyH_take (i := 24) (oi := ⟨some 116, _, _, _, _, _⟩) (v := ?_) rfl (by kernel_rfl) (by kernel_rfl) (by kernel_rfl) (fun _ _ _ h => h) (Or.inl ⟨by rfl, ?_⟩) (by assumption) ?_
                rotate_left 1
                · (intro w hSw; (try dsimp only at hSw); go_simp; all_goals with_reducible rfl)
                try simp only [Act.put, List.setIfInBounds_toArray, List.set_cons_zero, List.set_cons_succ]
                refine wpAnyH_ready (rs := [25]) (by kernel_rfl) (by simp) ?_
                refine AllReadyH.cons (o := ⟨none, _, _, _, _, _⟩) rfl (fun K hK => ?_) AllReadyH.nil
                go_simp
                obtain ⟨v, hv⟩ : ∃ v, v = z0 ^^^ 2 ^ t8 := ⟨_, rfl⟩
                have hm7 := mo7 z0 t8 HZ8.out ht8
                rw [← hv] at hm7
                rw [hm7.1]
                have hv8 : v < 256 := hm7.2
                have S25 : Frm [g] wr (wr.setCell ⟨g, jj, none⟩ (.int .u8 (v : Nat))).drew := ((Frm.refl _ _).setCell (.inl (by simp)) _).drew
                have hown : (wr.setCell ⟨g, jj, none⟩ (.int .u8 (v : Nat))).drew.ownsRow w.heap.size 35 1 (.slice (some ⟨b, off, none⟩) nl cl) nl vs := S25.own HO.out (fun x hx hm => own_ne HO.out HWGR.out (by decide) (by simp at hm; rw [← hm]; exact hx))
                have hrow : ∀ u ∈ vs, RowW (wr.setCell ⟨g, jj, none⟩ (.int .u8 (v : Nat))).drew w.heap.size u := fun u hu => ((HRW.out u hu).set (g0 := g) (j := jj) hv8).same (Frm.refl _ _).drew
                have HREL : Hid (M2Rel w (some ⟨b, off, none⟩) nl cl vs (.int .i64 ((i + 1 : Nat) : Nat)) (wr.setCell ⟨g, jj, none⟩ (.int .u8 (v : Nat))).drew) := Lib.hid ⟨i + 1, h4, rfl, Lib.hid hown, Lib.hid hrow, Lib.hid (HF.out.trans S25 (by simp) (fun x hx => .inr (by simp at hx; rw [hx]; exact HGB.out)))⟩
                clear hm7 hv hown hrow
                refine hK.out _ _ S25 (fun hHeld => ?_)
                clear hK K
                try simp only [Act.put, List.setIfInBounds_toArray, List.set_cons_zero, List.set_cons_succ]
                refine wpAnyH_done (by kernel_rfl) ?_ _
                clear qx qy e2 e7 e8 bm hj2 hn0 hm0 ht8 et8 b1 hcg hfg i2 i3
                go_wp2
                go_roundw
                case rel => exact HREL.out
                case measure => simp [intOf]; omega
              · have d2 : decide ((i : Int) < (n2 : Int)) = true := decide_eq_true (by omega)
                have d2' : decide (i < n2) = true := decide_eq_true h2
                have d3 : decide ((i : Int) < (n3 : Int)) = true := decide_eq_true (by omega)
                have d3' : decide (i < n3) = true := decide_eq_true h3
                have d4 : decide ((i : Int) < 3) = true := decide_eq_true (by omega)
                have d4' : decide (i < 3) = true := decide_eq_true h4
                have d5 : decide ((0 : Int) < (nl : Int)) = false := decide_eq_false (by omega)
                have d5' : decide (0 < nl) = false := decide_eq_false h5
                have HOP1 := Lib.hid (show Calls Tryz.prog 21 #[.slice al nl cl] wr fun e w' => e = .returned (.bool true) ∧ Frm [] wr w' from by
                  obtain ⟨L, hl, hLL, hLC⟩ := rows_ll HO.out HRW.out
                  exact opens_any al nl cl L wr hLL hLC hl (by omega))
                clear h2 h3 h4 h5
                go_wp2_with fail
                (with_reducible refine HOP1.out.mono ?_)
                rintro e wo ⟨rfl, hfo⟩
                have HFO := Lib.hid (HF.out.trans hfo (U := []) (by simp) (by simp))
                have HOO := Lib.hid (hfo.own HO.out (by simp))
                have HRO : Hid (∀ u ∈ vs, RowW wo w.heap.size u) := Lib.hid fun u hu => (HRW.out u hu).same hfo
                obtain ⟨vs0, hv0, he0, _⟩ := HRR.out.1.ll
                have HV0 : Hid (ValsAt wo a0 vs0) := Lib.hid (by
                  rcases hv0 with h | ⟨b, off, h, hc⟩
                  · exact .inl h
                  · exact .inr ⟨b, off, h, fun i u hu => (HFO.out.cell (p := ⟨b, off + i, none⟩) (block_lt_of_cell (hc i u hu)) (by simp)).trans (hc i u hu)⟩)
                have HE0 := Lib.hid he0
                have HVW := Lib.hid hv0
                have hm0 : n0 = vs0.length := by rw [he0.len]; exact HN0.out
                have HM0 := Lib.hid hm0
                have hol : ∀ x ∈ blk al, w.heap.size ≤ x := fun x hx => (World.ownsRow.lt HOO.out x (ownBlk3.2 hx)).1
                have HOL := Lib.hid hol
                clear hfo hv0 he0 hm0 hol HOP1
                have h20b : nl + n0 ≤ 1000000000 := by have := H20.out; omega
                go_wp2_with (at_builtin; refine wpList_appW (by rfl) (.tmp 120) (.tmp 121) 65 rfl w.heap.size 35 i0 (.slice none 0 0) 24 Tryz.underlying65 HI.out HZ0.out rfl HZ1.out HZ2.out (by decide) (.slice al nl cl) nl _ rfl HOO.out a0 n0 c0 vs0 rfl HV0.out HM0.out HE0.out.one' HRR.out.1.nil h20b HFO.out.size ?_)
                intro al2 cl2 wz happ
                have HOP2 := Lib.hid (show Calls Tryz.prog 21 #[.slice al2 (nl + n0) cl2] wz fun e w' => e = .returned (.bool true) ∧ Frm [] wz w' from by
                  have hf12 : Frm (blk al) wo wz := (Frm.refl _ _).grown happ.grown (fun x hx => .inl (ownBlk3.1 hx))
                  have hty := own_type HOO.out (by decide)
                  obtain ⟨L, h1, h2⟩ := rows_ents vs (fun u hu => (HRO.out u hu).keep hf12 hty)
                  have he := ((HE0.out.less' (F' := blk al) (fun x hx => .inr (HOL.out x hx))).keep (F' := blk al) HFO.out (by simp) (fun x hx => .inl hx)).keep (F' := []) hf12 (fun x hx => .inl hx) (by simp)
                  have hlen : nl + n0 = (L ++ R).length := by rw [List.length_append, ← h1.len, ← HN0.out]; have := HOO.out.1; omega
                  exact opens_any al2 (nl + n0) cl2 (L ++ R) wz ⟨vs ++ vs0, own_vals happ.own, h1.append he, by simp⟩ (lcap_of (own_vals happ.own) (join_caps h1.len h2 (of_lcap HVW.out HE0.out HRR.out.2))) hlen (by omega))
                have HFZ : Hid (Frm [] w wz) := Lib.hid (HFO.out.grown happ.grown (fun x hx => .inr (HOL.out x (ownBlk3.1 hx))))
                clear happ h20b
                go_wp2_with fail
                (with_reducible refine HOP2.out.mono ?_)
                rintro e wy ⟨rfl, hfy⟩
                have HE := Lib.hid (HFZ.out.trans hfy (U := []) (by simp) (by simp))
                clear hfy HOP2
                go_wp2
                go_ret
                exact ⟨rfl, HE.out.below (by simp) (Nat.le_refl _)⟩
            · have d2 : decide ((i : Int) < (n2 : Int)) = true := decide_eq_true (by omega)
              have d2' : decide (i < n2) = true := decide_eq_true h2
              have d3 : decide ((i : Int) < (n3 : Int)) = true := decide_eq_true (by omega)
              have d3' : decide (i < n3) = true := decide_eq_true h3
              have d4 : decide ((i : Int) < 3) = false := decide_eq_false (by omega)
              have d4' : decide (i < 3) = false := decide_eq_false h4
              have HOP1 := Lib.hid (show Calls Tryz.prog 21 #[.slice al nl cl] wr fun e w' => e = .returned (.bool true) ∧ Frm [] wr w' from by
                obtain ⟨L, hl, hLL, hLC⟩ := rows_ll HO.out HRW.out
                exact opens_any al nl cl L wr hLL hLC hl (by omega))
              clear h2 h3 h4
              go_wp2_with fail
              (with_reducible refine HOP1.out.mono ?_)
              rintro e wo ⟨rfl, hfo⟩
              have HFO := Lib.hid (HF.out.trans hfo (U := []) (by simp) (by simp))
              have HOO := Lib.hid (hfo.own HO.out (by simp))
              have HRO : Hid (∀ u ∈ vs, RowW wo w.heap.size u) := Lib.hid fun u hu => (HRW.out u hu).same hfo
              obtain ⟨vs0, hv0, he0, _⟩ := HRR.out.1.ll
              have HV0 : Hid (ValsAt wo a0 vs0) := Lib.hid (by
                rcases hv0 with h | ⟨b, off, h, hc⟩
                · exact .inl h
                · exact .inr ⟨b, off, h, fun i u hu => (HFO.out.cell (p := ⟨b, off + i, none⟩) (block_lt_of_cell (hc i u hu)) (by simp)).trans (hc i u hu)⟩)
              have HE0 := Lib.hid he0
              have HVW := Lib.hid hv0
              have hm0 : n0 = vs0.length := by rw [he0.len]; exact HN0.out
              have HM0 := Lib.hid hm0
              have hol : ∀ x ∈ blk al, w.heap.size ≤ x := fun x hx => (World.ownsRow.lt HOO.out x (ownBlk3.2 hx)).1
              have HOL := Lib.hid hol
              clear hfo hv0 he0 hm0 hol HOP1
              have h20b : nl + n0 ≤ 1000000000 := by have := H20.out; omega
              go_wp2_with (at_builtin; refine wpList_appW (by rfl) (.tmp 120) (.tmp 121) 65 rfl w.heap.size 35 i0 (.slice none 0 0) 24 Tryz.underlying65 HI.out HZ0.out rfl HZ1.out HZ2.out (by decide) (.slice al nl cl) nl _ rfl HOO.out a0 n0 c0 vs0 rfl HV0.out HM0.out HE0.out.one' HRR.out.1.nil h20b HFO.out.size ?_)
              intro al2 cl2 wz happ
              have HOP2 := Lib.hid (show Calls Tryz.prog 21 #[.slice al2 (nl + n0) cl2] wz fun e w' => e = .returned (.bool true) ∧ Frm [] wz w' from by
                have hf12 : Frm (blk al) wo wz := (Frm.refl _ _).grown happ.grown (fun x hx => .inl (ownBlk3.1 hx))
                have hty := own_type HOO.out (by decide)
                obtain ⟨L, h1, h2⟩ := rows_ents vs (fun u hu => (HRO.out u hu).keep hf12 hty)
                have he := ((HE0.out.less' (F' := blk al) (fun x hx => .inr (HOL.out x hx))).keep (F' := blk al) HFO.out (by simp) (fun x hx => .inl hx)).keep (F' := []) hf12 (fun x hx => .inl hx) (by simp)
                have hlen : nl + n0 = (L ++ R).length := by rw [List.length_append, ← h1.len, ← HN0.out]; have := HOO.out.1; omega
                exact opens_any al2 (nl + n0) cl2 (L ++ R) wz ⟨vs ++ vs0, own_vals happ.own, h1.append he, by simp⟩ (lcap_of (own_vals happ.own) (join_caps h1.len h2 (of_lcap HVW.out HE0.out HRR.out.2))) hlen (by omega))
              have HFZ : Hid (Frm [] w wz) := Lib.hid (HFO.out.grown happ.grown (fun x hx => .inr (HOL.out x (ownBlk3.1 hx))))
              clear happ h20b
              go_wp2_with fail
              (with_reducible refine HOP2.out.mono ?_)
              rintro e wy ⟨rfl, hfy⟩
              have HE := Lib.hid (HFZ.out.trans hfy (U := []) (by simp) (by simp))
              clear hfy HOP2
              go_wp2
              go_ret
              exact ⟨rfl, HE.out.below (by simp) (Nat.le_refl _)⟩
          · have d2 : decide ((i : Int) < (n2 : Int)) = true := decide_eq_true (by omega)
            have d2' : decide (i < n2) = true := decide_eq_true h2
            have d3 : decide ((i : Int) < (n3 : Int)) = false := decide_eq_false (by omega)
            have d3' : decide (i < n3) = false := decide_eq_false h3
            have HOP1 := Lib.hid (show Calls Tryz.prog 21 #[.slice al nl cl] wr fun e w' => e = .returned (.bool true) ∧ Frm [] wr w' from by
              obtain ⟨L, hl, hLL, hLC⟩ := rows_ll HO.out HRW.out
              exact opens_any al nl cl L wr hLL hLC hl (by omega))
            clear h2 h3
            go_wp2_with fail
            (with_reducible refine HOP1.out.mono ?_)
            rintro e wo ⟨rfl, hfo⟩
            have HFO := Lib.hid (HF.out.trans hfo (U := []) (by simp) (by simp))
            have HOO := Lib.hid (hfo.own HO.out (by simp))
            have HRO : Hid (∀ u ∈ vs, RowW wo w.heap.size u) := Lib.hid fun u hu => (HRW.out u hu).same hfo
            obtain ⟨vs0, hv0, he0, _⟩ := HRR.out.1.ll
            have HV0 : Hid (ValsAt wo a0 vs0) := Lib.hid (by
              rcases hv0 with h | ⟨b, off, h, hc⟩
              · exact .inl h
              · exact .inr ⟨b, off, h, fun i u hu => (HFO.out.cell (p := ⟨b, off + i, none⟩) (block_lt_of_cell (hc i u hu)) (by simp)).trans (hc i u hu)⟩)
            have HE0 := Lib.hid he0
            have HVW := Lib.hid hv0
            have hm0 : n0 = vs0.length := by rw [he0.len]; exact HN0.out
            have HM0 := Lib.hid hm0
            have hol : ∀ x ∈ blk al, w.heap.size ≤ x := fun x hx => (World.ownsRow.lt HOO.out x (ownBlk3.2 hx)).1
            have HOL := Lib.hid hol
            clear hfo hv0 he0 hm0 hol HOP1
            have h20b : nl + n0 ≤ 1000000000 := by have := H20.out; omega
            go_wp2_with (at_builtin; refine wpList_appW (by rfl) (.tmp 120) (.tmp 121) 65 rfl w.heap.size 35 i0 (.slice none 0 0) 24 Tryz.underlying65 HI.out HZ0.out rfl HZ1.out HZ2.out (by decide) (.slice al nl cl) nl _ rfl HOO.out a0 n0 c0 vs0 rfl HV0.out HM0.out HE0.out.one' HRR.out.1.nil h20b HFO.out.size ?_)
            intro al2 cl2 wz happ
            have HOP2 := Lib.hid (show Calls Tryz.prog 21 #[.slice al2 (nl + n0) cl2] wz fun e w' => e = .returned (.bool true) ∧ Frm [] wz w' from by
              have hf12 : Frm (blk al) wo wz := (Frm.refl _ _).grown happ.grown (fun x hx => .inl (ownBlk3.1 hx))
              have hty := own_type HOO.out (by decide)
              obtain ⟨L, h1, h2⟩ := rows_ents vs (fun u hu => (HRO.out u hu).keep hf12 hty)
              have he := ((HE0.out.less' (F' := blk al) (fun x hx => .inr (HOL.out x hx))).keep (F' := blk al) HFO.out (by simp) (fun x hx => .inl hx)).keep (F' := []) hf12 (fun x hx => .inl hx) (by simp)
              have hlen : nl + n0 = (L ++ R).length := by rw [List.length_append, ← h1.len, ← HN0.out]; have := HOO.out.1; omega
              exact opens_any al2 (nl + n0) cl2 (L ++ R) wz ⟨vs ++ vs0, own_vals happ.own, h1.append he, by simp⟩ (lcap_of (own_vals happ.own) (join_caps h1.len h2 (of_lcap HVW.out HE0.out HRR.out.2))) hlen (by omega))
            have HFZ : Hid (Frm [] w wz) := Lib.hid (HFO.out.grown happ.grown (fun x hx => .inr (HOL.out x (ownBlk3.1 hx))))
            clear happ h20b
            go_wp2_with fail
            (with_reducible refine HOP2.out.mono ?_)
            rintro e wy ⟨rfl, hfy⟩
            have HE := Lib.hid (HFZ.out.trans hfy (U := []) (by simp) (by simp))
            clear hfy HOP2
            go_wp2
            go_ret
            exact ⟨rfl, HE.out.below (by simp) (Nat.le_refl _)⟩
        · have d2 : decide ((i : Int) < (n2 : Int)) = false := decide_eq_false (by omega)
          have d2' : decide (i < n2) = false := decide_eq_false h2
          have HOP1 := Lib.hid (show Calls Tryz.prog 21 #[.slice al nl cl] wr fun e w' => e = .returned (.bool true) ∧ Frm [] wr w' from by
            obtain ⟨L, hl, hLL, hLC⟩ := rows_ll HO.out HRW.out
            exact opens_any al nl cl L wr hLL hLC hl (by omega))
          clear h2
          go_wp2_with fail
          (with_reducible refine HOP1.out.mono ?_)
          rintro e wo ⟨rfl, hfo⟩
          have HFO := Lib.hid (HF.out.trans hfo (U := []) (by simp) (by simp))
          have HOO := Lib.hid (hfo.own HO.out (by simp))
          have HRO : Hid (∀ u ∈ vs, RowW wo w.heap.size u) := Lib.hid fun u hu => (HRW.out u hu).same hfo
          obtain ⟨vs0, hv0, he0, _⟩ := HRR.out.1.ll
          have HV0 : Hid (ValsAt wo a0 vs0) := Lib.hid (by
            rcases hv0 with h | ⟨b, off, h, hc⟩
            · exact .inl h
            · exact .inr ⟨b, off, h, fun i u hu => (HFO.out.cell (p := ⟨b, off + i, none⟩) (block_lt_of_cell (hc i u hu)) (by simp)).trans (hc i u hu)⟩)
          have HE0 := Lib.hid he0
          have HVW := Lib.hid hv0
          have hm0 : n0 = vs0.length := by rw [he0.len]; exact HN0.out
          have HM0 := Lib.hid hm0
          have hol : ∀ x ∈ blk al, w.heap.size ≤ x := fun x hx => (World.ownsRow.lt HOO.out x (ownBlk3.2 hx)).1
          have HOL := Lib.hid hol
          clear hfo hv0 he0 hm0 hol HOP1
          have h20b : nl + n0 ≤ 1000000000 := by have := H20.out; omega
          go_wp2_with (at_builtin; refine wpList_appW (by rfl) (.tmp 120) (.tmp 121) 65 rfl w.heap.size 35 i0 (.slice none 0 0) 24 Tryz.underlying65 HI.out HZ0.out rfl HZ1.out HZ2.out (by decide) (.slice al nl cl) nl _ rfl HOO.out a0 n0 c0 vs0 rfl HV0.out HM0.out HE0.out.one' HRR.out.1.nil h20b HFO.out.size ?_)
          intro al2 cl2 wz happ
          have HOP2 := Lib.hid (show Calls Tryz.prog 21 #[.slice al2 (nl + n0) cl2] wz fun e w' => e = .returned (.bool true) ∧ Frm [] wz w' from by
            have hf12 : Frm (blk al) wo wz := (Frm.refl _ _).grown happ.grown (fun x hx => .inl (ownBlk3.1 hx))
            have hty := own_type HOO.out (by decide)
            obtain ⟨L, h1, h2⟩ := rows_ents vs (fun u hu => (HRO.out u hu).keep hf12 hty)
            have he := ((HE0.out.less' (F' := blk al) (fun x hx => .inr (HOL.out x hx))).keep (F' := blk al) HFO.out (by simp) (fun x hx => .inl hx)).keep (F' := []) hf12 (fun x hx => .inl hx) (by simp)
            have hlen : nl + n0 = (L ++ R).length := by rw [List.length_append, ← h1.len, ← HN0.out]; have := HOO.out.1; omega
            exact opens_any al2 (nl + n0) cl2 (L ++ R) wz ⟨vs ++ vs0, own_vals happ.own, h1.append he, by simp⟩ (lcap_of (own_vals happ.own) (join_caps h1.len h2 (of_lcap HVW.out HE0.out HRR.out.2))) hlen (by omega))
          have HFZ : Hid (Frm [] w wz) := Lib.hid (HFO.out.grown happ.grown (fun x hx => .inr (HOL.out x (ownBlk3.1 hx))))
          clear happ h20b
          go_wp2_with fail
          (with_reducible refine HOP2.out.mono ?_)
          rintro e wy ⟨rfl, hfy⟩
          have HE := Lib.hid (HFZ.out.trans hfy (U := []) (by simp) (by simp))
          clear hfy HOP2
          go_wp2
          go_ret
          exact ⟨rfl, HE.out.below (by simp) (Nat.le_refl _)⟩
end Go.Proofs.YtomgiockelhfiaaGreat
