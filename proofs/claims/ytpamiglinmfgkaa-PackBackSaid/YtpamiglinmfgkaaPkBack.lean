/- PackBack, the closure: what was put is taken as it was put. -/
import Derived.Test.YtpamiglinmfgkaaPkPuts
import Derived.Deep.AppendLies
import Derived.Deep.RegionLaw
namespace Go.Proofs.Ytpamiglinmfgkaa
open Go.RowKit

/-- At the head of the closure's loop: what is left to take, and that right is still true. -/
structure BK (b0 w1 wr : World) (rb cb db lg rg : Nat) (a : Option Addr) (n cap : Nat) (l : List Nat) : Prop where
  frm0 : Frm [] b0 wr
  frm : Frm [rb, rg] w1 wr
  rdr : Rdr wr rb cb db l
  rt : Whole wr rg 4 #[.bool true]
  lt : Whole wr lg 22 #[.slice a n cap]
  b1 : b0.heap.size ≤ rb
  b2 : b0.heap.size ≤ rg
  b3 : db < w1.heap.size
  b4 : db ≠ rg

theorem BK.keep {b0 w1 wr wr' : World} {rb cb db lg rg : Nat} {a : Option Addr} {n cap : Nat} {l : List Nat} (h : BK b0 w1 wr rb cb db lg rg a n cap l) (hf : Frm [] wr wr') : BK b0 w1 wr' rb cb db lg rg a n cap l :=
  ⟨h.frm0.trans hf (by simp) (by simp), h.frm.trans hf (by simp) (by simp), h.rdr.keep hf (by simp) (by simp) (by simp), hf.whole h.rt (by simp), hf.whole h.lt (by simp), h.b1, h.b2, h.b3, h.b4⟩
/-- A thing is taken, right is stored anew. -/
theorem BK.took {b0 w1 wr wr' : World} {rb cb db lg rg : Nat} {a : Option Addr} {n cap : Nat} {l l' : List Nat} (h : BK b0 w1 wr rb cb db lg rg a n cap l) (hf : Frm [rb] wr wr') (hr : Rdr wr' rb cb db l') : BK b0 w1 wr' rb cb db lg rg a n cap l' := by
  have n1 : rg ≠ rb := by
    obtain ⟨_, _, r1, _⟩ := h.rdr
    exact h.rt.ne r1 (by decide)
  have n2 : lg ≠ rb := by
    obtain ⟨_, _, r1, _⟩ := h.rdr
    exact h.lt.ne r1 (by decide)
  exact ⟨h.frm0.fresh (fun x hx => by simp at hx; subst hx; exact h.b1) hf, h.frm.trans hf (by simp) (by simp), hr, hf.whole h.rt (by simp [n1]), hf.whole h.lt (by simp [n2]), h.b1, h.b2, h.b3, h.b4⟩
theorem BK.store {b0 w1 wr : World} {rb cb db lg rg : Nat} {a : Option Addr} {n cap : Nat} {l : List Nat} (h : BK b0 w1 wr rb cb db lg rg a n cap l) : BK b0 w1 (wr.setCell ⟨rg, 0, none⟩ (.bool true)) rb cb db lg rg a n cap l := by
  have hf : Frm [rg] wr (wr.setCell ⟨rg, 0, none⟩ (.bool true)) := (Frm.refl _ _).setCell (.inl (by simp)) _
  obtain ⟨_, _, r1, r2, _⟩ := h.rdr
  have n1 : rb ≠ rg := r1.ne h.rt (by decide)
  have n2 : cb ≠ rg := r2.ne h.rt (by decide)
  have n3 : lg ≠ rg := h.lt.ne h.rt (by decide)
  exact ⟨h.frm0.fresh (fun x hx => by simp at hx; subst hx; exact h.b2) hf, h.frm.trans hf (by simp) (by simp), h.rdr.keep hf (by simp [n1]) (by simp [n2]) (by simp [h.b4]), h.rt.put 0 _, hf.whole h.lt (by simp [n3]), h.b1, h.b2, h.b3, h.b4⟩

/-- What is left when k things are taken. -/
def lefts (ts : List Th) (k : Nat) (more : List Nat) : List Nat := encs (ts.drop k) ++ more
theorem lefts_step (ts : List Th) (k : Nat) (more : List Nat) (h : k < ts.length) : lefts ts k more = enc (ts.getD k default) ++ lefts ts (k + 1) more := by
  have e : ts.getD k default = ts[k] := by simp [h]
  rw [e]
  unfold lefts encs
  rw [List.drop_eq_getElem_cons h, List.map_cons, List.flatten_cons, List.append_assoc]

/-- The number taken is the number put. -/
theorem val_enc (k tn : Nat) (X : List Nat) : val ((be k tn ++ X).take k) = tn % 256 ^ k := by
  rw [List.take_append_of_le_length (by simp [be_length]), List.take_of_length_le (by simp [be_length]), ← be_mod k tn, val_be k _ (Nat.mod_lt _ (Nat.pow_pos (by decide)))]
theorem drop_enc (k tn : Nat) (X : List Nat) : (be k tn ++ X).drop k = X := by
  rw [List.drop_append_of_le_length (by simp [be_length]), List.drop_of_length_le (by simp [be_length])]; rfl
/-- At the loop's head: what a counted text leaves. -/
theorem val_encB {B X : List Nat} {n : Nat} (h : n < 4294967296) : val (((be 4 n ++ B) ++ X).take 4) = n := by
  rw [List.append_assoc, val_enc]; exact Nat.mod_eq_of_lt (by omega)
theorem drop_encB1 {B X : List Nat} {n : Nat} (hn : n = B.length) : (((be 4 n ++ B) ++ X).drop 4).take n = B := by
  rw [List.append_assoc, drop_enc, hn]; simp
theorem drop_encB2 {B X : List Nat} {n : Nat} (hn : n = B.length) : ((be 4 n ++ B) ++ X).drop (4 + n) = X := by
  rw [List.append_assoc, ← List.drop_drop, drop_enc, hn]; simp
/-- At the loop's head. -/
def BRel (b0 w1 : World) (ts : List Th) (more : List Nat) (rb cb db lg rg : Nat) (a : Option Addr) (n cap : Nat) (i : Value) (wr : World) : Prop :=
  ∃ k : Nat, k ≤ n ∧ i = .int .i64 k ∧ BK b0 w1 wr rb cb db lg rg a n cap (lefts ts k more)

set_option maxRecDepth 100000 in
set_option maxHeartbeats 8000000 in
theorem back_by (b0 w w1 : World) (rb cb db lg rg : Nat) (a : Option Addr) (n cap : Nat) (ts : List Th) (more : List Nat) (hT : Things b0 a ts) (hn : n = ts.length) (h60 : n ≤ 60) (hs : ∀ t ∈ ts, ¬ Big t)
    (h : Told w w1 rb cb db (encs ts ++ more)) (hf0 : Frm [] b0 w) (hl : Whole w lg 22 #[.slice a n cap]) (hr : Whole w rg 4 #[.bool true]) (hrg : b0.heap.size ≤ rg) :
    Calls Try.prog 15 (#[.pointer (some ⟨rb, 0, none⟩)] ++ #[.pointer (some ⟨lg, 0, none⟩), .pointer (some ⟨rg, 0, none⟩)]) w1
      (ByRet w w1 rb cb db (fun w2 rest => Frm [] b0 w2 ∧ rest = more ∧ Whole w2 rg 4 #[.bool true])) := by
  have B0 : BK b0 w1 w1 rb cb db lg rg a n cap (lefts ts 0 more) :=
    ⟨hf0.trans h.frm (by simp) (by simp), Frm.refl _ _, h.rdr, h.frm.whole hr (by simp), h.frm.whole hl (by simp), by have := hf0.size; have := h.hr; omega, hrg, h.dlt, by have := hr.lt; have := h.hd; omega⟩
  have FIN : ∀ wr, BK b0 w1 wr rb cb db lg rg a n cap (lefts ts n more) → ByRet w w1 rb cb db (fun w2 rest => Frm [] b0 w2 ∧ rest = more ∧ Whole w2 rg 4 #[.bool true]) (.returned (.tuple #[])) wr := fun wr hb =>
    ⟨rfl, more, [rb, rg], ⟨hb.frm0, rfl, hb.rt⟩, by
      have e := hb.rdr
      unfold lefts at e
      rw [List.drop_of_length_le (by omega)] at e
      exact e, hb.frm, fun x hx => by
        simp at hx
        rcases hx with rfl | rfl
        · exact .inl rfl
        · exact .inr (.inr (.inl hr.lt))⟩
  have HFIN := Lib.hid FIN; clear FIN
  have c0 := B0.lt.cell 0
  have c1 := B0.rt.cell 0
  simp at c0 c1
  have HB0 := Lib.hid B0
  have H := Lib.hid hT; clear hT
  have HS := Lib.hid hs; clear hs
  have HN := Lib.hid hn; clear hn
  clear h hf0 hl hr hrg B0
  show Calls Try.prog 15 #[.pointer (some ⟨rb, 0, none⟩), .pointer (some ⟨lg, 0, none⟩), .pointer (some ⟨rg, 0, none⟩)] w1 _
  go_enter Try.func15, Try.ntmps15
  go_wp2
  clear c0 c1
  go_loopw [8] (fun i wr => BRel b0 w1 ts more rb cb db lg rg a n cap i wr) (fun i _ => n - (intOf i).toNat)
  case atStart => exact ⟨0, Nat.zero_le _, rfl, HB0.out⟩
  case round =>
    obtain ⟨k, hk, rfl, hb⟩ := hrel
    by_cases hlt : k < n
    · have hkt : k < ts.length := by have := HN.out; omega
      obtain ⟨b, off, rfl, hi⟩ := H.out (by omega)
      have ht := (hi k hkt).keep hb.frm0
      have hsm := HS.out (ts.getD k default) (by simp [hkt])
      have hst := lefts_step ts k more hkt
      have holdb := bytes_lt (hi k hkt).bytes
      have HOLD := Lib.hid holdb; clear holdb
      clear hi hkt
      obtain ⟨X, hX⟩ : ∃ X, X = lefts ts (k + 1) more := ⟨_, rfl⟩
      rw [← hX] at hst
      rw [hst] at hb
      have HX := Lib.hid hX; clear hX hst
      generalize ts.getD k default = t at ht hsm hb HOLD
      unfold Big at hsm
      obtain ⟨tk, tn, tba, tbc, tbs, tstr⟩ := t
      obtain ⟨c0, c1, c2, c3, hbt, hle, hnil, k8, n64, s63⟩ := ht
      simp only at c0 c1 c2 c3 hbt hle hnil k8 n64 s63 hsm HOLD
      have g1 : tbs.length ≤ 1000 := by omega
      have g2 : tstr.size ≤ 1000 := by omega
      clear hsm
      obtain ⟨g, hg⟩ : ∃ g, g = wr.heap.size := ⟨_, rfl⟩
      have hb1 := hb.keep ((Frm.refl [] wr).alloc (.cells #[.int .u8 tk, .int .u64 tn, .slice tba tbs.length tbc, .string tstr] 35))
      have hw1 : Whole (wr.alloc (.cells #[.int .u8 tk, .int .u64 tn, .slice tba tbs.length tbc, .string tstr] 35)) g 35 #[.int .u8 tk, .int .u64 tn, .slice tba tbs.length tbc, .string tstr] := Whole.made' _ _ hg
      have hB1 : Bytes (wr.alloc (.cells #[.int .u8 tk, .int .u64 tn, .slice tba tbs.length tbc, .string tstr] 35)) tba tbs := ((Frm.refl [] wr).alloc _).bytes hbt (by simp)
      have hgr : g ≠ rb := by have := hb.rdr.lt.1; omega
      have hgg : g ≠ rg := by have := hb.rt.lt; omega
      have HBK := Lib.hid hb1
      have HW := Lib.hid hw1
      have HB1 := Lib.hid hB1
      have HNIL := Lib.hid hnil
      clear hb hb1 hw1 hB1 hbt hnil
      have hmod : tk % 6 < 6 := Nat.mod_lt _ (by decide)
      obtain ⟨m6, hm6⟩ : ∃ m6, m6 = tk % 6 := ⟨_, rfl⟩
      rw [← hm6] at hmod
      have hk6 : (tk : Int) % 6 = (m6 : Int) := by rw [hm6]; rfl
      have HM6 := Lib.hid hm6; clear hm6
      have cases6 : m6 = 0 ∨ m6 = 1 ∨ m6 = 2 ∨ m6 = 3 ∨ m6 = 4 ∨ m6 = 5 := by omega
      rcases cases6 with rfl | rfl | rfl | rfl | rfl | rfl
      · obtain ⟨v, hv⟩ : ∃ v, v = tn % 256 := ⟨_, rfl⟩
        have hv1 : (tn : Int) % 256 = (v : Int) := by rw [hv]; rfl
        have hvb : v < 256 := by rw [hv]; exact Nat.mod_lt _ (by decide)
        have hv2 : IntKind.u8.wrap (tn : Int) = (v : Int) := by rw [← hv1]; simp [IntKind.wrap, IntKind.bits, IntKind.signed]
        have hbk := HBK.out
        have eE : enc ⟨tk, tn, tba, tbc, tbs, tstr⟩ = be 1 tn := by unfold enc; simp only [← HM6.out]; simp
        rw [eE] at hbk
        clear HBK eE
        have hval : val ((be 1 tn ++ X).take 1) = v := by rw [val_enc, hv]
        have hGot := fun (w' : World) (hf : Frm [] (wr.alloc (.cells #[.int .u8 tk, .int .u64 tn, .slice tba tbs.length tbc, .string tstr] 35)) w') => ru8_ok (hbk.keep hf).rdr (by simp [be_length]) (Nat.lt_of_lt_of_le hbk.b3 (hbk.keep hf).frm.size)
        unfold Got at hGot
        simp only [hval, drop_enc] at hGot
        have GOT := Lib.hid hGot
        have HBK := Lib.hid hbk
        clear hGot hbk hval
        clear hv
        obtain ⟨wa, hwa⟩ : ∃ wa, wa = wr.alloc (.cells #[.int .u8 tk, .int .u64 tn, .slice tba tbs.length tbc, .string tstr] 35) := ⟨_, rfl⟩
        go_wp2
        rw [← hg, ← hwa]
        rw [← hwa] at HW HBK GOT HB1
        have HWA := Lib.hid hwa; clear hwa
        have HG := Lib.hid hg; clear hg
        have d1 := HW.out.cell 1
        have dr := HBK.out.rt.cell 0
        have fr := HBK.out.rt.free 0
        simp at d1 dr fr
        have f0 : Frm [] wa wa.drew := (Frm.refl _ _).drew
        go_region_law (first | (go_simp; go_at_call 16; refine (GOT.out _ f0).mono ?_; rintro e wd ⟨rfl, hrd, hfd⟩; have d2 := (hfd.whole (f0.whole HW.out (by simp)) (by simp [hgr])).cell 1; have hbd := (HBK.out.keep f0).took hfd hrd; have dr2 := hbd.rt.cell 0; have fr2 := hbd.rt.free 0; simp at d2 dr2 fr2))
        all_goals
          have R : BRel b0 w1 ts more rb cb db lg rg (some ⟨b, off, none⟩) n cap (.int .i64 (k + 1 : Nat)) (wd.setCell ⟨rg, 0, none⟩ (.bool true)) := ⟨k + 1, hlt, rfl, by rw [← HX.out]; exact hbd.store⟩
          have HR := Lib.hid R
          clear R d1 dr fr d2 dr2 fr2 hbd hrd hfd f0
          go_wp2
          go_roundw
          case rel => exact HR.out
          case measure => simp [intOf]; omega
      · obtain ⟨v, hv⟩ : ∃ v, v = tn % 65536 := ⟨_, rfl⟩
        have hv1 : (tn : Int) % 65536 = (v : Int) := by rw [hv]; rfl
        have hvb : v < 65536 := by rw [hv]; exact Nat.mod_lt _ (by decide)
        have hv2 : IntKind.u16.wrap (tn : Int) = (v : Int) := by rw [← hv1]; simp [IntKind.wrap, IntKind.bits, IntKind.signed]
        have hbk := HBK.out
        have eE : enc ⟨tk, tn, tba, tbc, tbs, tstr⟩ = be 2 tn := by unfold enc; simp only [← HM6.out]; simp
        rw [eE] at hbk
        clear HBK eE
        have hval : val ((be 2 tn ++ X).take 2) = v := by rw [val_enc, hv]
        have hGot := fun (w' : World) (hf : Frm [] (wr.alloc (.cells #[.int .u8 tk, .int .u64 tn, .slice tba tbs.length tbc, .string tstr] 35)) w') => ru16_ok (hbk.keep hf).rdr (by simp [be_length]) (Nat.lt_of_lt_of_le hbk.b3 (hbk.keep hf).frm.size)
        unfold Got at hGot
        simp only [hval, drop_enc] at hGot
        have GOT := Lib.hid hGot
        have HBK := Lib.hid hbk
        clear hGot hbk hval
        clear hv
        obtain ⟨wa, hwa⟩ : ∃ wa, wa = wr.alloc (.cells #[.int .u8 tk, .int .u64 tn, .slice tba tbs.length tbc, .string tstr] 35) := ⟨_, rfl⟩
        go_wp2
        rw [← hg, ← hwa]
        rw [← hwa] at HW HBK GOT HB1
        have HWA := Lib.hid hwa; clear hwa
        have HG := Lib.hid hg; clear hg
        have d1 := HW.out.cell 1
        have dr := HBK.out.rt.cell 0
        have fr := HBK.out.rt.free 0
        simp at d1 dr fr
        have f0 : Frm [] wa wa.drew := (Frm.refl _ _).drew
        go_region_law (first | (go_simp; go_at_call 17; refine (GOT.out _ f0).mono ?_; rintro e wd ⟨rfl, hrd, hfd⟩; have d2 := (hfd.whole (f0.whole HW.out (by simp)) (by simp [hgr])).cell 1; have hbd := (HBK.out.keep f0).took hfd hrd; have dr2 := hbd.rt.cell 0; have fr2 := hbd.rt.free 0; simp at d2 dr2 fr2))
        all_goals
          have R : BRel b0 w1 ts more rb cb db lg rg (some ⟨b, off, none⟩) n cap (.int .i64 (k + 1 : Nat)) (wd.setCell ⟨rg, 0, none⟩ (.bool true)) := ⟨k + 1, hlt, rfl, by rw [← HX.out]; exact hbd.store⟩
          have HR := Lib.hid R
          clear R d1 dr fr d2 dr2 fr2 hbd hrd hfd f0
          go_wp2
          go_roundw
          case rel => exact HR.out
          case measure => simp [intOf]; omega
      · obtain ⟨v, hv⟩ : ∃ v, v = tn % 4294967296 := ⟨_, rfl⟩
        have hv1 : (tn : Int) % 4294967296 = (v : Int) := by rw [hv]; rfl
        have hvb : v < 4294967296 := by rw [hv]; exact Nat.mod_lt _ (by decide)
        have hv2 : IntKind.u32.wrap (tn : Int) = (v : Int) := by rw [← hv1]; simp [IntKind.wrap, IntKind.bits, IntKind.signed]
        have hbk := HBK.out
        have eE : enc ⟨tk, tn, tba, tbc, tbs, tstr⟩ = be 4 tn := by unfold enc; simp only [← HM6.out]; simp
        rw [eE] at hbk
        clear HBK eE
        have hval : val ((be 4 tn ++ X).take 4) = v := by rw [val_enc, hv]
        have hGot := fun (w' : World) (hf : Frm [] (wr.alloc (.cells #[.int .u8 tk, .int .u64 tn, .slice tba tbs.length tbc, .string tstr] 35)) w') => ru32_ok (hbk.keep hf).rdr (by simp [be_length]) (Nat.lt_of_lt_of_le hbk.b3 (hbk.keep hf).frm.size)
        unfold Got at hGot
        simp only [hval, drop_enc] at hGot
        have GOT := Lib.hid hGot
        have HBK := Lib.hid hbk
        clear hGot hbk hval
        clear hv
        obtain ⟨wa, hwa⟩ : ∃ wa, wa = wr.alloc (.cells #[.int .u8 tk, .int .u64 tn, .slice tba tbs.length tbc, .string tstr] 35) := ⟨_, rfl⟩
        go_wp2
        rw [← hg, ← hwa]
        rw [← hwa] at HW HBK GOT HB1
        have HWA := Lib.hid hwa; clear hwa
        have HG := Lib.hid hg; clear hg
        have d1 := HW.out.cell 1
        have dr := HBK.out.rt.cell 0
        have fr := HBK.out.rt.free 0
        simp at d1 dr fr
        have f0 : Frm [] wa wa.drew := (Frm.refl _ _).drew
        go_region_law (first | (go_simp; go_at_call 18; refine (GOT.out _ f0).mono ?_; rintro e wd ⟨rfl, hrd, hfd⟩; have d2 := (hfd.whole (f0.whole HW.out (by simp)) (by simp [hgr])).cell 1; have hbd := (HBK.out.keep f0).took hfd hrd; have dr2 := hbd.rt.cell 0; have fr2 := hbd.rt.free 0; simp at d2 dr2 fr2))
        all_goals
          have R : BRel b0 w1 ts more rb cb db lg rg (some ⟨b, off, none⟩) n cap (.int .i64 (k + 1 : Nat)) (wd.setCell ⟨rg, 0, none⟩ (.bool true)) := ⟨k + 1, hlt, rfl, by rw [← HX.out]; exact hbd.store⟩
          have HR := Lib.hid R
          clear R d1 dr fr d2 dr2 fr2 hbd hrd hfd f0
          go_wp2
          go_roundw
          case rel => exact HR.out
          case measure => simp [intOf]; omega
      · have hvv : tn % 256 ^ 8 = tn := Nat.mod_eq_of_lt (by omega)
        have hbk := HBK.out
        have eE : enc ⟨tk, tn, tba, tbc, tbs, tstr⟩ = be 8 tn := by unfold enc; simp only [← HM6.out]; simp
        rw [eE] at hbk
        clear HBK eE
        have hval : val ((be 8 tn ++ X).take 8) = tn := by rw [val_enc]; exact hvv
        have hGot := fun (w' : World) (hf : Frm [] (wr.alloc (.cells #[.int .u8 tk, .int .u64 tn, .slice tba tbs.length tbc, .string tstr] 35)) w') => ru64_ok (hbk.keep hf).rdr (by simp [be_length]) (Nat.lt_of_lt_of_le hbk.b3 (hbk.keep hf).frm.size)
        unfold Got at hGot
        simp only [hval, drop_enc] at hGot
        have GOT := Lib.hid hGot
        have HBK := Lib.hid hbk
        clear hGot hbk hval
        clear hvv
        obtain ⟨wa, hwa⟩ : ∃ wa, wa = wr.alloc (.cells #[.int .u8 tk, .int .u64 tn, .slice tba tbs.length tbc, .string tstr] 35) := ⟨_, rfl⟩
        go_wp2
        rw [← hg, ← hwa]
        rw [← hwa] at HW HBK GOT HB1
        have HWA := Lib.hid hwa; clear hwa
        have HG := Lib.hid hg; clear hg
        have d1 := HW.out.cell 1
        have dr := HBK.out.rt.cell 0
        have fr := HBK.out.rt.free 0
        simp at d1 dr fr
        have f0 : Frm [] wa wa.drew := (Frm.refl _ _).drew
        go_region_law (first | (go_simp; go_at_call 19; refine (GOT.out _ f0).mono ?_; rintro e wd ⟨rfl, hrd, hfd⟩; have d2 := (hfd.whole (f0.whole HW.out (by simp)) (by simp [hgr])).cell 1; have hbd := (HBK.out.keep f0).took hfd hrd; have dr2 := hbd.rt.cell 0; have fr2 := hbd.rt.free 0; simp at d2 dr2 fr2))
        all_goals
          have R : BRel b0 w1 ts more rb cb db lg rg (some ⟨b, off, none⟩) n cap (.int .i64 (k + 1 : Nat)) (wd.setCell ⟨rg, 0, none⟩ (.bool true)) := ⟨k + 1, hlt, rfl, by rw [← HX.out]; exact hbd.store⟩
          have HR := Lib.hid R
          clear R d1 dr fr d2 dr2 fr2 hbd hrd hfd f0
          go_wp2
          go_roundw
          case rel => exact HR.out
          case measure => simp [intOf]; omega
      · have hbk := HBK.out
        have eE : enc ⟨tk, tn, tba, tbc, tbs, tstr⟩ = be 4 tbs.length ++ tbs := by unfold enc; simp only [← HM6.out]; simp
        rw [eE] at hbk
        clear HBK eE
        have hGot := fun (w' : World) (hf : Frm [] (wr.alloc (.cells #[.int .u8 tk, .int .u64 tn, .slice tba tbs.length tbc, .string tstr] 35)) w') => rbytes_ok (hbk.keep hf).rdr (by simp [be_length]; try omega) (Nat.lt_of_lt_of_le hbk.b3 (hbk.keep hf).frm.size) tbs.length (val_encB (by omega)) (by simp [be_length]; try omega) (by omega)
        unfold GotBytes at hGot
        simp only [drop_encB1 (B := tbs) rfl, drop_encB2 (B := tbs) rfl] at hGot
        have GOT := Lib.hid hGot
        have HBK := Lib.hid hbk
        clear hGot hbk
        obtain ⟨wa, hwa⟩ : ∃ wa, wa = wr.alloc (.cells #[.int .u8 tk, .int .u64 tn, .slice tba tbs.length tbc, .string tstr] 35) := ⟨_, rfl⟩
        go_wp2
        rw [← hg, ← hwa]
        rw [← hwa] at HW HBK GOT HB1
        have HWA := Lib.hid hwa; clear hwa
        have HG := Lib.hid hg; clear hg
        have d1 := HW.out.cell 2
        have dr := HBK.out.rt.cell 0
        have fr := HBK.out.rt.free 0
        simp at d1 dr fr
        have f0 : Frm [] wa wa.drew := (Frm.refl _ _).drew
        have cv0 := to_string (c := tbc) (f0.bytes HB1.out (by simp)) rfl
        go_region_law (first | (go_simp; go_at_call 20; refine (GOT.out _ f0).mono ?_; rintro e wd ⟨ax, cx, rfl, hbx, hnx, hrd, hfd0⟩; have hfd : Frm [rb] wa wd := f0.trans hfd0 (by simp) (fun x hx => .inl hx); have d2 := (hfd.whole HW.out (by simp [hgr])).cell 2; have hbd := (HBK.out.keep f0).took hfd0 hrd; have dr2 := hbd.rt.cell 0; have fr2 := hbd.rt.free 0; simp at d2 dr2 fr2; have cvB := to_string (c := tbc) (hfd.bytes' HB1.out (fun hne x hx hm => by simp at hm; have := HOLD.out hne x hx; have := HBK.out.b1; omega)) rfl; have cvA := to_string (c := cx) hbx rfl))
        all_goals
          have R : BRel b0 w1 ts more rb cb db lg rg (some ⟨b, off, none⟩) n cap (.int .i64 (k + 1 : Nat)) (wd.setCell ⟨rg, 0, none⟩ (.bool true)) := ⟨k + 1, hlt, rfl, by rw [← HX.out]; exact hbd.store⟩
          have HR := Lib.hid R
          clear R d1 dr fr d2 dr2 fr2 hbd hrd hfd hfd0 f0 hbx hnx cvA
          go_wp2
          go_roundw
          case rel => exact HR.out
          case measure => simp [intOf]; omega
      · have hbk := HBK.out
        have eE : enc ⟨tk, tn, tba, tbc, tbs, tstr⟩ = be 4 tstr.size ++ (strL tstr) := by unfold enc; simp only [← HM6.out]; simp
        rw [eE] at hbk
        clear HBK eE
        have hGot := fun (w' : World) (hf : Frm [] (wr.alloc (.cells #[.int .u8 tk, .int .u64 tn, .slice tba tbs.length tbc, .string tstr] 35)) w') => rbytes_ok (hbk.keep hf).rdr (by simp [be_length]; try omega) (Nat.lt_of_lt_of_le hbk.b3 (hbk.keep hf).frm.size) tstr.size (val_encB (by omega)) (by simp [be_length, strL_length]; try omega) (by omega)
        unfold GotBytes at hGot
        simp only [drop_encB1 (B := (strL tstr)) (strL_length tstr).symm, drop_encB2 (B := (strL tstr)) (strL_length tstr).symm] at hGot
        have GOT := Lib.hid hGot
        have HBK := Lib.hid hbk
        clear hGot hbk
        obtain ⟨wa, hwa⟩ : ∃ wa, wa = wr.alloc (.cells #[.int .u8 tk, .int .u64 tn, .slice tba tbs.length tbc, .string tstr] 35) := ⟨_, rfl⟩
        go_wp2
        rw [← hg, ← hwa]
        rw [← hwa] at HW HBK GOT HB1
        have HWA := Lib.hid hwa; clear hwa
        have HG := Lib.hid hg; clear hg
        have d1 := HW.out.cell 3
        have dr := HBK.out.rt.cell 0
        have fr := HBK.out.rt.free 0
        simp at d1 dr fr
        have f0 : Frm [] wa wa.drew := (Frm.refl _ _).drew
        go_region_law (first | (go_simp; go_at_call 20; refine (GOT.out _ f0).mono ?_; rintro e wd ⟨ax, cx, rfl, hbx, hnx, hrd, hfd0⟩; have hfd : Frm [rb] wa wd := f0.trans hfd0 (by simp) (fun x hx => .inl hx); have d2 := (hfd.whole HW.out (by simp [hgr])).cell 3; have hbd := (HBK.out.keep f0).took hfd0 hrd; have dr2 := hbd.rt.cell 0; have fr2 := hbd.rt.free 0; simp at d2 dr2 fr2; have cvA := to_string (c := cx) hbx (strL_length tstr).symm; rw [strOf_strL] at cvA))
        all_goals
          have R : BRel b0 w1 ts more rb cb db lg rg (some ⟨b, off, none⟩) n cap (.int .i64 (k + 1 : Nat)) (wd.setCell ⟨rg, 0, none⟩ (.bool true)) := ⟨k + 1, hlt, rfl, by rw [← HX.out]; exact hbd.store⟩
          have HR := Lib.hid R
          clear R d1 dr fr d2 dr2 fr2 hbd hrd hfd hfd0 f0 hbx hnx cvA
          go_wp2
          go_roundw
          case rel => exact HR.out
          case measure => simp [intOf]; omega
    · obtain rfl : k = n := by omega
      have hfin := HFIN.out wr hb
      have c0 := hb.lt.cell 0
      have HF := Lib.hid hfin
      clear hfin hb
      go_wp2
      go_end0
      exact HF.out
end Go.Proofs.Ytpamiglinmfgkaa
