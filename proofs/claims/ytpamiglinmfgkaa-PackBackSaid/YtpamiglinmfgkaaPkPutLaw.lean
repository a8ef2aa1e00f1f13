/- The law's 'put': things into a Writer, and as the document has them, side by side. -/
import Derived.Test.YtpamiglinmfgkaaPkThings
import Derived.Test.YtpamiglinmfgkaaPkWords
namespace Go.Proofs.Ytpamiglinmfgkaa
open Go.RowKit

/-- A thing, as it is put. -/
def enc (t : Th) : List Nat :=
  if t.k % 6 = 0 then be 1 t.n else if t.k % 6 = 1 then be 2 t.n else if t.k % 6 = 2 then be 4 t.n else if t.k % 6 = 3 then be 8 t.n
  else if t.k % 6 = 4 then be 4 t.bs.length ++ t.bs else be 4 t.s.size ++ strL t.s
def encs (ts : List Th) : List Nat := (ts.map enc).flatten
theorem encs_take (ts : List Th) (i : Nat) (h : i < ts.length) : encs (ts.take (i + 1)) = encs (ts.take i) ++ enc (ts.getD i default) := by
  have e : ts.getD i default = ts[i] := by simp [h]
  rw [e]
  unfold encs
  rw [List.take_succ_eq_append_getElem h, List.map_append, List.flatten_append, List.map_singleton, List.flatten_singleton]
theorem enc_len (t : Th) (h : ¬ Big t) : (enc t).length ≤ 1004 := by
  unfold Big at h
  unfold enc
  repeat' split
  all_goals simp [be_length, strL_length] <;> omega
theorem encs_len (ts : List Th) (h : ∀ t ∈ ts, ¬ Big t) : (encs ts).length ≤ 1004 * ts.length := by
  induction ts with
  | nil => simp [encs]
  | cons t ts ih =>
    have h1 := ih (fun x hx => h x (by simp [hx]))
    have h2 := enc_len t (h t (by simp))
    have e : encs (t :: ts) = enc t ++ encs ts := rfl
    rw [e, List.length_append, List.length_cons]
    omega
theorem be_mod (k n : Nat) : be k (n % 256 ^ k) = be k n := by
  induction k generalizing n with
  | zero => rfl
  | succ k ih =>
    have e1 : n % 256 ^ (k + 1) / 256 = n / 256 % 256 ^ k := by
      rw [Nat.pow_succ, Nat.mul_comm, Nat.mod_mul_right_div_self]
    have e2 : n % 256 ^ (k + 1) % 256 = n % 256 := by
      rw [Nat.pow_succ, Nat.mul_comm, Nat.mod_mul_right_mod]
    rw [be, be, e1, e2, ih]

/-- A Writer and a row of the call's own, side by side. -/
structure St (w0 w : World) (B p : Nat) (F : List Nat) (a : Option Addr) (cap : Nat) (lw lr : List Nat) : Prop where
  wr : Wr w B p F lw
  own : w.ownsRow B 5 1 (.slice a lr.length cap) lr.length (lr.map u8v)
  apart : ∀ g ∈ ob a, g ∉ F
  frm : Frm [] w0 w
  base : B = w0.heap.size

theorem St.keep {w0 w w' : World} {B p : Nat} {F : List Nat} {a : Option Addr} {cap : Nat} {lw lr : List Nat} (h : St w0 w B p F a cap lw lr) (hf : Frm [] w w') : St w0 w' B p F a cap lw lr :=
  ⟨h.wr.keep hf (by simp), hf.own h.own (by simp), h.apart, h.frm.trans hf (by simp) (by simp), h.base⟩
theorem St.put {w0 w w' : World} {B p : Nat} {F : List Nat} {a : Option Addr} {cap : Nat} {lw lr b : List Nat} (h : St w0 w B p F a cap lw lr) (hp : Put w w' B p F lw b) : ∃ F2, St w0 w' B p F2 a cap (lw ++ b) lr := by
  obtain ⟨F2, h1, h2, h3⟩ := hp
  refine ⟨F2, h1, h2.own h.own (fun g hg => h.apart g (ob_some.1 hg)), fun g hg hm => ?_, h.frm.fresh (fun x hx => by have := (h.wr.lt x hx).1; have := h.base; omega) h2, h.base⟩
  rcases h3 g hm with h4 | h4
  · exact h.apart g hg h4
  · have := (h.own.lt g (ob_some.2 hg)).2; omega
theorem St.rput {w0 w w' : World} {B p : Nat} {F : List Nat} {a : Option Addr} {cap : Nat} {lw lr b : List Nat} {e : Ending} (h : St w0 w B p F a cap lw lr) (hp : RPut w B a lr b e w') :
    ∃ a2 cap2, e = .returned (.slice a2 (lr ++ b).length cap2) ∧ St w0 w' B p F a2 cap2 lw (lr ++ b) := by
  obtain ⟨a2, cap2, rfl, h1, h2, h3⟩ := hp
  refine ⟨a2, cap2, rfl, h.wr.keep h2 (fun x hx hm => h.apart x hm hx), h1, fun g hg hm => ?_, ?_, h.base⟩
  · rcases h3 g hg with h4 | h4
    · exact h.apart g h4 hm
    · have := (h.wr.lt g hm).2; omega
  · exact h.frm.fresh (fun x hx => by have := (h.own.lt x (ob_some.2 hx)).1; have := h.base; omega) h2
theorem St.le {w0 w : World} {B p : Nat} {F : List Nat} {a : Option Addr} {cap : Nat} {lw lr : List Nat} (h : St w0 w B p F a cap lw lr) : B ≤ w.heap.size := by have := h.frm.size; have := h.base; omega
/-- What is older than both is in neither. -/
theorem St.old {w0 w : World} {B p : Nat} {F : List Nat} {a : Option Addr} {cap : Nat} {lw lr : List Nat} (h : St w0 w B p F a cap lw lr) {x : Nat} (hx : x < w0.heap.size) : x ∉ F ∧ x ∉ ob a :=
  ⟨fun hm => by have := (h.wr.lt x hm).1; have := h.base; omega, fun hm => by have := (h.own.lt x (ob_some.2 hm)).1; have := h.base; omega⟩

/-- At the head of put's loop. -/
def PRel (w0 : World) (ts : List Th) (n p : Nat) (v i : Value) (wr : World) : Prop :=
  ∃ (k : Nat) (F : List Nat) (a : Option Addr) (cap : Nat), k ≤ n ∧ i = .int .i64 k ∧ v = .slice a (encs (ts.take k)).length cap ∧ St w0 wr w0.heap.size p F a cap (encs (ts.take k)) (encs (ts.take k))
/-- What put hands back. -/
def PutLaw (w : World) (ts : List Th) (e : Ending) (w' : World) : Prop :=
  ∃ (F : List Nat) (a : Option Addr) (cap : Nat), e = .returned (.tuple #[.pointer (some ⟨w.heap.size, 0, none⟩), .slice a (encs ts).length cap]) ∧ St w w' w.heap.size w.heap.size F a cap (encs ts) (encs ts)

set_option maxRecDepth 100000 in
set_option maxHeartbeats 8000000 in
theorem put_law (a : Option Addr) (n cap : Nat) (ts : List Th) (w : World) (h : Things w a ts) (hn : n = ts.length) (h60 : n ≤ 60) (hs : ∀ t ∈ ts, ¬ Big t) :
    Calls Try.prog 12 #[.slice a n cap] w (PutLaw w ts) := by
  have H := Lib.hid h; clear h
  have HS := Lib.hid hs; clear hs
  have HN := Lib.hid hn; clear hn
  have HW0 := Lib.hid (Wr.zero w)
  have HF0 : Hid (Frm [] w (w.alloc (.cells #[.pointer none, .int .i64 0] 63))) := (Frm.refl _ _).alloc _
  go_enter Try.func12, Try.ntmps12
  go_wp2
  go_loopw [5, 12] (fun v i wr => PRel w ts n w.heap.size v i wr) (fun _ i _ => n - (intOf i).toNat)
  case atStart => exact ⟨0, [w.heap.size], none, 0, Nat.zero_le _, rfl, rfl, HW0.out, World.ownsRow_nil _ _ _ _, by simp [ob], HF0.out, rfl⟩
  case round =>
    obtain ⟨k, F, ak, ck, hk, rfl, rfl, hst⟩ := hrel
    by_cases hlt : k < n
    · obtain ⟨b, off, rfl, hi⟩ := H.out (by have := HN.out; omega)
      have ht0 := hi k (by have := HN.out; omega)
      have ht := ht0.keep hst.frm
      have hsm := HS.out (ts.getD k default) (by have := HN.out; simp [show k < ts.length by omega])
      have hstep := encs_take ts k (by have := HN.out; omega)
      have hlen : (encs (ts.take k)).length ≤ 1004 * 60 := by
        have h1 := encs_len (ts.take k) (fun t ht => HS.out t (List.mem_of_mem_take ht))
        rw [List.length_take] at h1
        have := HN.out; omega
      clear hi
      generalize ts.getD k default = t at ht ht0 hsm hstep
      unfold Big at hsm
      obtain ⟨tk, tn, tba, tbc, tbs, tstr⟩ := t
      obtain ⟨c0, c1, c2, c3, hb, hle, hnil, k8, n64, s63⟩ := ht
      have hb0 := ht0.bytes
      simp only at c0 c1 c2 c3 hb hle hnil k8 n64 s63 hsm hb0
      have g1 : tbs.length ≤ 1000 := by omega
      have g2 : tstr.size ≤ 1000 := by omega
      obtain ⟨l, hl⟩ : ∃ l, l = encs (ts.take k) := ⟨_, rfl⟩
      rw [← hl] at hst hlen hstep ⊢
      obtain ⟨g, hg⟩ : ∃ g, g = wr.heap.size := ⟨_, rfl⟩
      have hgF : g ∉ F := fun hm => by have := (hst.wr.lt g hm).2; omega
      have hga : g ∉ ob ak := fun hm => by have := (hst.own.lt g (ob_some.2 hm)).2; omega
      have hst1 := hst.keep ((Frm.refl [] wr).alloc (.cells #[.int .u8 tk, .int .u64 tn, .slice tba tbs.length tbc, .string tstr] 35))
      have hw1 : Whole (wr.alloc (.cells #[.int .u8 tk, .int .u64 tn, .slice tba tbs.length tbc, .string tstr] 35)) g 35 #[.int .u8 tk, .int .u64 tn, .slice tba tbs.length tbc, .string tstr] := Whole.made' _ _ hg
      have hB1 : Bytes (wr.alloc (.cells #[.int .u8 tk, .int .u64 tn, .slice tba tbs.length tbc, .string tstr] 35)) tba tbs := ((Frm.refl [] wr).alloc _).bytes hb (by simp)
      have holdb := bytes_lt hb0
      have HST := Lib.hid hst1
      have HW := Lib.hid hw1
      have HB1 := Lib.hid hB1
      have HOLD := Lib.hid holdb
      have HSTEP := Lib.hid hstep
      have HNIL := Lib.hid hnil
      clear hst hst1 hw1 hB1 holdb hstep hb hb0 hnil hsm ht0 hl
      have hmod : tk % 6 < 6 := Nat.mod_lt _ (by decide)
      obtain ⟨m6, hm6⟩ : ∃ m6, m6 = tk % 6 := ⟨_, rfl⟩
      rw [← hm6] at hmod
      have hk6 : (tk : Int) % 6 = (m6 : Int) := by rw [hm6]; rfl
      have HM6 := Lib.hid hm6; clear hm6
      have cases6 : m6 = 0 ∨ m6 = 1 ∨ m6 = 2 ∨ m6 = 3 ∨ m6 = 4 ∨ m6 = 5 := by omega
      rcases cases6 with rfl | rfl | rfl | rfl | rfl | rfl
      · obtain ⟨v, hv⟩ : ∃ v, v = tn % 256 := ⟨_, rfl⟩
        have hv1 : (tn : Int) % 256 = (v : Int) := by rw [hv]; rfl
        have hvb : v < 256 := by rw [hv]; exact Nat.mod_lt _ (by decide)
        have hv2 : IntKind.u8.wrap (tn : Int) = (v : Int) := by rw [← hv1]; simp [IntKind.wrap, IntKind.bits, IntKind.signed]
        have HV := Lib.hid hv; clear hv
        go_wp2_with fail
        refine (u8_any v HST.out.wr hvb (by omega)).mono ?_
        rintro e w2 ⟨rfl, hput⟩
        have hfr := hput.choose_spec.2.1
        have hw2 := hfr.whole HW.out hgF
        have d0 := hw2.cell 0
        have d1 := hw2.cell 1
        have d2 := hw2.cell 2
        have d3 := hw2.cell 3
        simp at d0 d1 d2 d3
        rw [hg] at d0 d1 d2 d3
        obtain ⟨F2, hst2⟩ := HST.out.put hput
        have HST2 := Lib.hid hst2
        clear hput hst2 hw2
        go_wp2_with fail
        refine (ref_put_any w.heap.size ak ck l v 1 w2 HST2.out.own HST2.out.le (by omega) (by omega) (by omega)).mono ?_
        rintro e w3 hr
        obtain ⟨a2, cap2, rfl, hst3⟩ := HST2.out.rput hr
        have hE : encs (ts.take (k + 1)) = l ++ be 1 v := by rw [HSTEP.out]; unfold enc; simp only [← HM6.out]; rw [HV.out]; simp [← be_mod 1 tn]
        have R : PRel w ts n w.heap.size (.slice a2 (l ++ be 1 v).length cap2) (.int .i64 (k + 1 : Nat)) w3 :=
          ⟨k + 1, F2, a2, cap2, hlt, rfl, by rw [hE], by rw [hE]; exact hst3⟩
        have HR := Lib.hid R
        clear R hst3 hr hE d0 d1 d2 d3
        obtain ⟨q, hq⟩ : ∃ q, q = (l ++ be 1 v).length := ⟨_, rfl⟩
        rw [← hq] at HR ⊢
        clear hq
        go_wp2
        go_roundw
        case rel => exact HR.out
        case measure => simp [intOf]; omega
      · obtain ⟨v, hv⟩ : ∃ v, v = tn % 65536 := ⟨_, rfl⟩
        have hv1 : (tn : Int) % 65536 = (v : Int) := by rw [hv]; rfl
        have hvb : v < 65536 := by rw [hv]; exact Nat.mod_lt _ (by decide)
        have hv2 : IntKind.u16.wrap (tn : Int) = (v : Int) := by rw [← hv1]; simp [IntKind.wrap, IntKind.bits, IntKind.signed]
        have HV := Lib.hid hv; clear hv
        go_wp2_with fail
        refine (u16_any v HST.out.wr hvb (by omega)).mono ?_
        rintro e w2 ⟨rfl, hput⟩
        have hfr := hput.choose_spec.2.1
        have hw2 := hfr.whole HW.out hgF
        have d0 := hw2.cell 0
        have d1 := hw2.cell 1
        have d2 := hw2.cell 2
        have d3 := hw2.cell 3
        simp at d0 d1 d2 d3
        rw [hg] at d0 d1 d2 d3
        obtain ⟨F2, hst2⟩ := HST.out.put hput
        have HST2 := Lib.hid hst2
        clear hput hst2 hw2
        go_wp2_with fail
        refine (ref_put_any w.heap.size ak ck l v 2 w2 HST2.out.own HST2.out.le (by omega) (by omega) (by omega)).mono ?_
        rintro e w3 hr
        obtain ⟨a2, cap2, rfl, hst3⟩ := HST2.out.rput hr
        have hE : encs (ts.take (k + 1)) = l ++ be 2 v := by rw [HSTEP.out]; unfold enc; simp only [← HM6.out]; rw [HV.out]; simp [← be_mod 2 tn]
        have R : PRel w ts n w.heap.size (.slice a2 (l ++ be 2 v).length cap2) (.int .i64 (k + 1 : Nat)) w3 :=
          ⟨k + 1, F2, a2, cap2, hlt, rfl, by rw [hE], by rw [hE]; exact hst3⟩
        have HR := Lib.hid R
        clear R hst3 hr hE d0 d1 d2 d3
        obtain ⟨q, hq⟩ : ∃ q, q = (l ++ be 2 v).length := ⟨_, rfl⟩
        rw [← hq] at HR ⊢
        clear hq
        go_wp2
        go_roundw
        case rel => exact HR.out
        case measure => simp [intOf]; omega
      · obtain ⟨v, hv⟩ : ∃ v, v = tn % 4294967296 := ⟨_, rfl⟩
        have hv1 : (tn : Int) % 4294967296 = (v : Int) := by rw [hv]; rfl
        have hvb : v < 4294967296 := by rw [hv]; exact Nat.mod_lt _ (by decide)
        have hv2 : IntKind.u32.wrap (tn : Int) = (v : Int) := by rw [← hv1]; simp [IntKind.wrap, IntKind.bits, IntKind.signed]
        have HV := Lib.hid hv; clear hv
        go_wp2_with fail
        refine (u32_any v HST.out.wr hvb (by omega)).mono ?_
        rintro e w2 ⟨rfl, hput⟩
        have hfr := hput.choose_spec.2.1
        have hw2 := hfr.whole HW.out hgF
        have d0 := hw2.cell 0
        have d1 := hw2.cell 1
        have d2 := hw2.cell 2
        have d3 := hw2.cell 3
        simp at d0 d1 d2 d3
        rw [hg] at d0 d1 d2 d3
        obtain ⟨F2, hst2⟩ := HST.out.put hput
        have HST2 := Lib.hid hst2
        clear hput hst2 hw2
        go_wp2_with fail
        refine (ref_put_any w.heap.size ak ck l v 4 w2 HST2.out.own HST2.out.le (by omega) (by omega) (by omega)).mono ?_
        rintro e w3 hr
        obtain ⟨a2, cap2, rfl, hst3⟩ := HST2.out.rput hr
        have hE : encs (ts.take (k + 1)) = l ++ be 4 v := by rw [HSTEP.out]; unfold enc; simp only [← HM6.out]; rw [HV.out]; simp [← be_mod 4 tn]
        have R : PRel w ts n w.heap.size (.slice a2 (l ++ be 4 v).length cap2) (.int .i64 (k + 1 : Nat)) w3 :=
          ⟨k + 1, F2, a2, cap2, hlt, rfl, by rw [hE], by rw [hE]; exact hst3⟩
        have HR := Lib.hid R
        clear R hst3 hr hE d0 d1 d2 d3
        obtain ⟨q, hq⟩ : ∃ q, q = (l ++ be 4 v).length := ⟨_, rfl⟩
        rw [← hq] at HR ⊢
        clear hq
        go_wp2
        go_roundw
        case rel => exact HR.out
        case measure => simp [intOf]; omega
      · go_wp2_with fail
        refine (u64_any tn HST.out.wr n64 (by omega)).mono ?_
        rintro e w2 ⟨rfl, hput⟩
        have hfr := hput.choose_spec.2.1
        have hw2 := hfr.whole HW.out hgF
        have d0 := hw2.cell 0
        have d1 := hw2.cell 1
        have d2 := hw2.cell 2
        have d3 := hw2.cell 3
        simp at d0 d1 d2 d3
        rw [hg] at d0 d1 d2 d3
        obtain ⟨F2, hst2⟩ := HST.out.put hput
        have HST2 := Lib.hid hst2
        clear hput hst2 hw2
        go_wp2_with fail
        refine (ref_put_any w.heap.size ak ck l tn 8 w2 HST2.out.own HST2.out.le (by omega) (by omega) (by omega)).mono ?_
        rintro e w3 hr
        obtain ⟨a2, cap2, rfl, hst3⟩ := HST2.out.rput hr
        have hE : encs (ts.take (k + 1)) = l ++ be 8 tn := by rw [HSTEP.out]; unfold enc; simp only [← HM6.out]; simp
        have R : PRel w ts n w.heap.size (.slice a2 (l ++ be 8 tn).length cap2) (.int .i64 (k + 1 : Nat)) w3 :=
          ⟨k + 1, F2, a2, cap2, hlt, rfl, by rw [hE], by rw [hE]; exact hst3⟩
        have HR := Lib.hid R
        clear R hst3 hr hE d0 d1 d2 d3
        obtain ⟨q, hq⟩ : ∃ q, q = (l ++ be 8 tn).length := ⟨_, rfl⟩
        rw [← hq] at HR ⊢
        clear hq
        go_wp2
        go_roundw
        case rel => exact HR.out
        case measure => simp [intOf]; omega
      · obtain ⟨bn, hbn⟩ : ∃ bn, bn = tbs.length := ⟨_, rfl⟩
        have HBN := Lib.hid hbn
        go_wp2_with fail
        refine (bytes_any HST.out.wr HB1.out (fun hne x hx hm => (HST.out.old (HOLD.out hne x hx)).1 hm) rfl HNIL.out (by omega) (by omega)).mono ?_
        rintro e w2 ⟨rfl, hput⟩
        have hfr := hput.choose_spec.2.1
        have hw2 := hfr.whole HW.out hgF
        have d0 := hw2.cell 0
        have d1 := hw2.cell 1
        have d2 := hw2.cell 2
        have d3 := hw2.cell 3
        simp at d0 d1 d2 d3
        rw [hg] at d0 d1 d2 d3
        obtain ⟨F2, hst2⟩ := HST.out.put hput
        have HST2 := Lib.hid hst2
        clear hput hst2 hw2
        have HB2 := Lib.hid (hfr.bytes' HB1.out (fun hne x hx hm => (HST.out.old (HOLD.out hne x hx)).1 hm))
        go_wp2_with fail
        refine (ref_putbytes_any w.heap.size ak ck l tba tbs.length tbc tbs w2 HST2.out.own HST2.out.le HB2.out (fun hne x hx hm => (HST2.out.old (HOLD.out hne x hx)).2 hm) rfl HNIL.out (by omega)).mono ?_
        rintro e w3 hr
        obtain ⟨a2, cap2, rfl, hst3⟩ := HST2.out.rput hr
        have hE : encs (ts.take (k + 1)) = l ++ (be 4 tbs.length ++ tbs) := by rw [HSTEP.out]; unfold enc; simp only [← HM6.out]; simp
        have R : PRel w ts n w.heap.size (.slice a2 (l ++ (be 4 tbs.length ++ tbs)).length cap2) (.int .i64 (k + 1 : Nat)) w3 :=
          ⟨k + 1, F2, a2, cap2, hlt, rfl, by rw [hE], by rw [hE]; exact hst3⟩
        have HR := Lib.hid R
        clear R hst3 hr hE d0 d1 d2 d3
        obtain ⟨q, hq⟩ : ∃ q, q = (l ++ (be 4 tbs.length ++ tbs)).length := ⟨_, rfl⟩
        rw [← hq] at HR ⊢
        clear hq
        go_wp2
        go_roundw
        case rel => exact HR.out
        case measure => simp [intOf]; omega
      · go_wp2_with fail
        refine (text_any tstr HST.out.wr (by omega) (by omega)).mono ?_
        rintro e w2 ⟨rfl, hput⟩
        have hfr := hput.choose_spec.2.1
        have hw2 := hfr.whole HW.out hgF
        have d0 := hw2.cell 0
        have d1 := hw2.cell 1
        have d2 := hw2.cell 2
        have d3 := hw2.cell 3
        simp at d0 d1 d2 d3
        rw [hg] at d0 d1 d2 d3
        obtain ⟨F2, hst2⟩ := HST.out.put hput
        have HST2 := Lib.hid hst2
        clear hput hst2 hw2
        have hcv := fun (w : World) => Lib.run_convert_string_bytes (P := Try.prog) w 9 26 5 tstr Try.underlying9 Try.underlying26 Try.underlying5
        go_wp2_with fail
        have hst4 := HST2.out.keep (conv_frm w2 5 tstr)
        have HST4 := Lib.hid hst4
        refine (ref_putbytes_any w.heap.size ak ck l _ tstr.size _ (strL tstr) _ hst4.own hst4.le (conv_bytes w2 5 tstr (by omega)) (fun _ x hx hm => by cases hx; have := (HST2.out.own.lt _ (ob_some.2 hm)).2; simp at this) (strL_length tstr).symm (by simp) (by omega)).mono ?_
        rintro e w3 hr
        clear hcv hst4
        obtain ⟨a2, cap2, rfl, hst3⟩ := HST4.out.rput hr
        have hE : encs (ts.take (k + 1)) = l ++ (be 4 tstr.size ++ strL tstr) := by rw [HSTEP.out]; unfold enc; simp only [← HM6.out]; simp
        have R : PRel w ts n w.heap.size (.slice a2 (l ++ (be 4 tstr.size ++ strL tstr)).length cap2) (.int .i64 (k + 1 : Nat)) w3 :=
          ⟨k + 1, F2, a2, cap2, hlt, rfl, by rw [hE], by rw [hE]; exact hst3⟩
        have HR := Lib.hid R
        clear R hst3 hr hE d0 d1 d2 d3
        obtain ⟨q, hq⟩ : ∃ q, q = (l ++ (be 4 tstr.size ++ strL tstr)).length := ⟨_, rfl⟩
        rw [← hq] at HR ⊢
        clear hq
        go_wp2
        go_roundw
        case rel => exact HR.out
        case measure => simp [intOf]; omega
    · obtain rfl : k = n := by omega
      have e0 : ts.take k = ts := List.take_of_length_le (by rw [← HN.out]; exact Nat.le_refl _)
      rw [e0] at hst ⊢
      have HST := Lib.hid hst
      clear hst e0
      go_wp2
      go_ret2
      exact ⟨F, ak, ck, rfl, HST.out⟩
end Go.Proofs.Ytpamiglinmfgkaa
