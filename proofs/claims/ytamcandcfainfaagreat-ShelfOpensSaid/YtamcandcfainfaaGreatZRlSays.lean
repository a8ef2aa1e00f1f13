/- Contract of the document's Says. -/
import Derived.Test.YtamcandcfainfaaGreatMX
import Derived.Test.YtamcandcfainfaaGreatZRlPutN
import Derived.Test.YtamcandcfainfaaGreatZRlTurn
import Derived.Test.YtamcandcfainfaaGreatZRgRd
namespace Go.Proofs.YtamcandcfainfaaGreat
open Go.RowKit
set_option maxRecDepth 100000

theorem tU_pU (k : Nat) (l : List Nat) : tU k l = pU k l := rfl
theorem tB_pB (l : List Nat) : tB l = pB l := rfl
theorem rput_any {w : World} {B : Nat} {F : List Nat} {q g : Nat} {dv : Value} {Lc : Nat} {R : List Rl} {m : Nat} (i k : Nat) (xa : Option Addr) (xn xc : Nat) (d : List Nat) (h : Rs w B F q dv (some ⟨g, 0, none⟩) Lc R m) (hF : ∀ x ∈ F, x < w.heap.size) (hm : m ≤ 1000000) (hi : i < R.length) (hk : k < N64) (hb : Bytes w xa d) (hxn : xn = d.length) (hnil : xa = none → xc = 0) (hd : d.length ≤ 1000000) :
    Calls Tryz.prog 59 #[.pointer (some ⟨g, i * 5, none⟩), .agg #[.int .u64 (k : Nat), .slice xa xn xc]] w (RlPutEnd w B F q dv (some ⟨g, 0, none⟩) Lc R m i k d) := by
  by_cases hin : ixN (R.getD i default).X k < (R.getD i default).X.length
  · exact rput_old' i k xa xn xc d h hF hm hi hk hb hxn hnil hd hin
  · exact rput_new' i k xa xn xc d h hF hm hi hk hb hxn hnil hd hin
/-- What Says answers and leaves. -/
def SaysEnd (w : World) (B : Nat) (F : List Nat) (q : Nat) (dv : Value) (La : Option Addr) (R : List Rl) (m : Nat) (b : List Nat) (e : Ending) (w' : World) : Prop :=
  ∃ (La' : Option Addr) (Lc' : Nat) (R' : List Rl), e = .returned (.bool (say1 (nodeOf R) b).isSome) ∧ Rs w' B F q dv La' Lc' R' (m + 2) ∧ (∀ S', say1 (nodeOf R) b = some S' → nodeOf R' = S') ∧ Frm (rwB q La R) w w' ∧ ∀ x ∈ rwB q La' R', x ∈ rwB q La R ∨ w.heap.size ≤ x

theorem rg_end0 {w : World} {Pb : Nat → Prop} {rb : Nat} (h : RG w Pb rb (some [])) : Calls Tryz.prog 58 #[.pointer (some ⟨rb, 0, none⟩)] w fun e w' => e = .returned (.int .i64 0) ∧ w = w' := by
  obtain ⟨a, l, cap, code, h1, h2, h3, h4, h5, hB, h6⟩ := h
  rcases h6 with ⟨e, rfl⟩ | ⟨e, _⟩
  · cases e
    have c0 := h1.cell 0
    have c1 := h1.cell 1
    simp at c0 c1
    clear h1 h2 h3 h4 h5 hB
    go_enter Tryz.func58, Tryz.ntmps58
    go_wp2
    go_ret
    exact ⟨rfl, rfl⟩
  · cases e
theorem tU_short {k n : Nat} {l m : List Nat} (h : tU k l = some (n, m)) : m.length ≤ l.length := by
  unfold tU at h
  by_cases h1 : l.length < k
  · rw [if_pos h1] at h; cases h
  · rw [if_neg h1] at h
    cases h
    rw [List.length_drop]; omega
theorem tB_short {l d m : List Nat} (h : tB l = some (d, m)) : d.length ≤ l.length := by
  unfold tB at h
  by_cases h1 : l.length < 4
  · rw [if_pos h1] at h; cases h
  · rw [if_neg h1] at h
    by_cases h2 : l.length - 4 < val (l.take 4)
    · rw [if_pos h2] at h; cases h
    · rw [if_neg h2] at h
      cases h
      rw [List.length_take, List.length_drop]; omega
/-- What a record of kind 1 says, by what was read. -/
theorem says_add {S : Nd9} {b l1 m2 v : List Nat} {n1 n8 n4 n5 : Nat} {o4 o5 o6 : Option (List Nat)} (h1 : tU 1 b = some (n1, l1)) (h2 : tU 8 l1 = some (n8, m2)) (hk : n1 = 1) (hg : (S n8).gone = false) (e4 : (some m2).bind (pU 8) = o4.map (Prod.mk n4)) (e5 : o4.bind (pU 8) = o5.map (Prod.mk n5)) (e6 : o5.bind pB = o6.map (Prod.mk v)) :
    (o6 ≠ some [] → say1 S b = none) ∧ (o6 = some [] → shPre S b = some (n8, addL (S n8) n4 n5 v, []) ∧ v.length ≤ b.length) := by
  have hpre : shPre S b = (sayL (S n8) 1 m2).map fun r => (n8, r.1, r.2) := by
    unfold shPre
    rw [h1]
    simp only [Option.bind_some]
    rw [h2]
    simp only [Option.bind_some]
    rw [if_neg (by rw [hg]; simp), hk]
  have hL : sayL (S n8) 1 m2 = (tU 8 m2).bind fun e => (tU 8 e.2).bind fun s => (tB s.2).bind fun d => some (addL (S n8) e.1 s.1 d.1, d.2) := by unfold sayL; rw [if_pos rfl]
  simp only [Option.bind_some] at e4
  cases o4 with
  | none =>
    simp only [Option.bind_none, Option.map_none] at e4 e5
    cases o5 with
    | some l => simp at e5
    | none =>
      simp only [Option.bind_none] at e6
      cases o6 with
      | some l => simp at e6
      | none =>
        refine ⟨fun _ => ?_, fun h => by cases h⟩
        unfold say1
        rw [hpre, hL, tU_pU, e4]
        rfl
  | some l4 =>
    simp only [Option.map_some, Option.bind_some] at e4 e5
    cases o5 with
    | none =>
      simp only [Option.bind_none, Option.map_none] at e5 e6
      cases o6 with
      | some l => simp at e6
      | none =>
        refine ⟨fun _ => ?_, fun h => by cases h⟩
        unfold say1
        rw [hpre, hL, tU_pU, e4]
        simp only [Option.bind_some]
        rw [tU_pU, e5]
        rfl
    | some l5 =>
      simp only [Option.map_some, Option.bind_some] at e5 e6
      cases o6 with
      | none =>
        refine ⟨fun _ => ?_, fun h => by cases h⟩
        simp only [Option.map_none] at e6
        unfold say1
        rw [hpre, hL, tU_pU, e4]
        simp only [Option.bind_some]
        rw [tU_pU, e5]
        simp only [Option.bind_some]
        rw [tB_pB, e6]
        rfl
      | some l6 =>
        simp only [Option.map_some] at e6
        have hp : shPre S b = some (n8, addL (S n8) n4 n5 v, l6) := by
          rw [hpre, hL, tU_pU, e4]
          simp only [Option.bind_some]
          rw [tU_pU, e5]
          simp only [Option.bind_some]
          rw [tB_pB, e6]
          rfl
        refine ⟨fun h => ?_, fun h => ?_⟩
        · unfold say1
          rw [hp]
          dsimp only
          rw [if_neg (fun h0 => h (by rw [h0]))]
        · cases h
          refine ⟨hp, ?_⟩
          have q1 := tU_short h1
          have q2 := tU_short h2
          have q3 := tU_short (k := 8) (l := m2) e4
          have q4 := tU_short (k := 8) (l := l4) e5
          have q5 := tB_short (l := l5) e6
          omega
/-- What a record said whose ledger is turned. -/
theorem says_end {w w' : World} {B : Nat} {F : List Nat} {q : Nat} {dv : Value} {La La' : Option Addr} {Lc' : Nat} {R R' : List Rl} {m n8 : Nat} {b m2 : List Nat} {x : Lg} {c : Nat} (hsh : shPre (nodeOf R) b = some (n8, x, m2)) (hrs : Rs w' B F q dv La' Lc' R' (m + 2)) (hnode : nodeOf R' = updS (nodeOf R) n8 x) (hf : Frm (rwB q La R) w w')
    (hnew : ∀ y ∈ rwB q La' R', y ∈ rwB q La R ∨ w.heap.size ≤ y) (hc : c = 0 ↔ some m2 = some ([] : List Nat)) : SaysEnd w B F q dv La R m b (.returned (.bool (decide (c = 0)))) w' := by
  have hsay : say1 (nodeOf R) b = if m2 = [] then some (updS (nodeOf R) n8 x) else none := by unfold say1; rw [hsh]
  refine ⟨La', Lc', R', ?_, hrs, fun S' h => ?_, hf, hnew⟩
  · rw [hsay]
    by_cases h0 : m2 = []
    · rw [if_pos h0, decide_eq_true (hc.2 (by rw [h0]))]; rfl
    · rw [if_neg h0, decide_eq_false (fun h => h0 (by simpa using hc.1 h))]; rfl
  · rw [hsay] at h
    by_cases h0 : m2 = []
    · rw [if_pos h0] at h; cases h; exact hnode
    · rw [if_neg h0] at h; cases h

set_option maxHeartbeats 4000000 in
theorem rsays_any {w : World} {B : Nat} {F : List Nat} {q : Nat} {dv : Value} {La : Option Addr} {Lc : Nat} {R : List Rl} {m : Nat} (ba : Option Addr) (bn bc : Nat) (b : List Nat) (h : Rs w B F q dv La Lc R m) (hF : ∀ x ∈ F, x < w.heap.size) (hm : m ≤ 900000) (hb : Bytes w ba b) (hbn : bn = b.length) (hbc : bn ≤ bc) (hnil : ba = none → bc = 0) (hb4 : b.length ≤ 100000) (hout : b ≠ [] → ∀ x, ba = some x → x.block ∉ rwB q La R) :
    Calls Tryz.prog 41 #[.pointer (some ⟨q, 0, none⟩), .slice ba bn bc] w (SaysEnd w B F q dv La R m b) := by
  obtain ⟨Pb, hPb⟩ : ∃ Pb : Nat → Prop, Pb = fun y => b ≠ [] ∧ ∃ x, ba = some x ∧ x.block = y := ⟨_, rfl⟩
  have hPlt : ∀ y, Pb y → y < w.heap.size := fun y hy => by
    rw [hPb] at hy
    obtain ⟨hne, x, hx, rfl⟩ := hy
    exact bytes_lt hb hne x hx
  have hPR : ∀ y ∈ rwB q La R, ¬ Pb y := fun y hy hp => by
    rw [hPb] at hp
    obtain ⟨hne, x, hx, rfl⟩ := hp
    exact hout hne x hx hy
  have hRD : ∀ z, Whole z w.heap.size 120 #[.slice ba bn bc, .int .i64 0] → Frm [] w z → RG z Pb w.heap.size (some b) := fun z hz hf =>
    ⟨ba, b, bc, 0, by rw [← hbn]; exact hz, hf.bytes' hb (by simp), by omega, hnil, fun hne x hx => by rw [hPb]; exact ⟨hne, x, hx, rfl⟩, fun hp => by have := hPlt _ hp; omega, .inl ⟨rfl, rfl⟩⟩
  have H := Lib.hid h
  have HF := Lib.hid hF
  have HPLT := Lib.hid hPlt
  have HPR := Lib.hid hPR
  have HRD := Lib.hid hRD
  clear h hF hPlt hPR hRD hPb hb hbn hbc hnil hout
  go_enter Tryz.func41, Tryz.ntmps41
  go_wp2_with fail
  obtain ⟨rb, hrb⟩ : ∃ rb, rb = w.heap.size := ⟨_, rfl⟩
  have hW0 := Whole.made w 120 #[.slice ba bn bc, .int .i64 0]
  have hf0 : Frm [] w (w.alloc (.cells #[.slice ba bn bc, .int .i64 0] 120)) := (Frm.refl _ _).alloc _
  have hR0 := HRD.out _ hW0 hf0
  rw [← hrb] at hR0 ⊢
  generalize w.alloc (.cells #[.slice ba bn bc, .int .i64 0] 120) = w0 at hW0 hf0 hR0 ⊢
  have HF0 := Lib.hid hf0
  have HN1 := Lib.hid (rg_num 1 1 rfl hR0 (by omega))
  have HRB := Lib.hid hrb
  clear hW0 hf0 hR0 HRD hrb
  (with_reducible refine HN1.out.mono ?_)
  rintro e w1 ⟨n1, o1, rfl, e1, l1, hr1, hf1⟩
  have HN8 := Lib.hid (rg_num 8 8 rfl hr1 (by omega))
  have HF1 : Hid (Frm [] w w1) := Lib.hid (HF0.out.trans hf1 (by simp) (fun x hx => .inr (by simp at hx; have := HRB.out; omega)))
  have HE1 := Lib.hid e1
  have HL1 := Lib.hid l1
  clear hr1 hf1 e1 l1 HN1
  go_wp2_with fail
  (with_reducible refine HN8.out.mono ?_)
  rintro e w2 ⟨n8, o2, rfl, e2, l2, hr2, hf2⟩
  have HF2 : Hid (Frm [] w w2) := Lib.hid (HF1.out.trans hf2 (by simp) (fun x hx => .inr (by simp at hx; have := HRB.out; omega)))
  obtain ⟨code, hcode, hco⟩ := hr2.code
  have HR2 := Lib.hid hr2
  have HE2 := Lib.hid e2
  have HL2 := Lib.hid l2
  clear hr2 hf2 e2 l2 HN8
  cases o2 with
  | none =>
    have hc0 : ((code : Int) != 0) = true := by rw [bne_iff_ne]; intro h0; exact (hco.1 (by omega)) rfl
    have hsay : say1 (nodeOf R) b = none := by
      have h1 := HE1.out
      have h2 := HE2.out
      unfold say1 shPre
      simp only [Option.bind_some] at h1
      rw [tU_pU, h1]
      cases o1 with
      | none => rfl
      | some l => simp only [Option.bind_some, Option.map_none] at h2; simp only [Option.map_some, Option.bind_some, tU_pU, h2, Option.bind_none]
    have HE : Hid (SaysEnd w B F q dv La R m b (.returned (.bool false)) w2) := Lib.hid ⟨La, Lc, R, by rw [hsay]; rfl, (H.out.here HF2.out).more (by omega), (fun S' h => by rw [hsay] at h; cases h), HF2.out.weak (by simp), fun x hx => .inl hx⟩
    clear hsay hco
    go_wp2
    go_ret
    exact HE.out
  | some m2 =>
    have hc0 : ((code : Int) != 0) = false := by
      have := hco.2 (by simp)
      subst this; rfl
    have HOF := Lib.hid (rof_any n8 HL2.out (H.out.keep (F' := rb :: F) HF2.out (by simp) (fun x hx => by have h0 := HRB.out; rcases List.mem_cons.1 hx with rfl | h1; exact .inr (by omega); exact .inl h1)) (fun x hx => by have h0 := HR2.out.lt.2; rcases List.mem_cons.1 hx with rfl | h1; exact h0; exact Nat.lt_of_lt_of_le (HF.out x h1) HF2.out.size) (by omega))
    obtain ⟨l1, hl1⟩ : ∃ l1, o1 = some l1 := by
      cases o1 with
      | none => have := HE2.out; simp at this
      | some l => exact ⟨l, rfl⟩
    have HT : Hid (tU 1 b = some (n1, l1) ∧ tU 8 l1 = some (n8, m2)) := Lib.hid (by
      have h1 := HE1.out
      have h2 := HE2.out
      rw [hl1] at h1 h2
      simp only [Option.bind_some, Option.map_some] at h1 h2
      exact ⟨h1, h2⟩)
    clear hl1 HE1 HE2 HL1 hco
    go_wp2_with fail
    (with_reducible refine HOF.out.mono ?_)
    rintro e w3 ⟨i, La1, Lc1, R1, rfl, hrs, hi, hid, hnode, hf3, hnew⟩
    obtain ⟨g, hg, c0, c1, c2, c3, c4⟩ := hrs.at hi
    subst hg
    have hbox := hrs.box.cell 0
    simp at hbox
    have hgone : (nodeOf R n8).gone = (R1.getD i default).gone := by rw [← hnode, ← hid, nodeOf_at hrs.ids hi]; rfl
    have hrb3 : rb ∉ rwB q La R := fun hm => by have h1 := H.out.lt rb hm; have h2 := HRB.out; omega
    have HR3 := Lib.hid (HR2.out.keep hf3 HPR.out hrb3)
    have HF3 : Hid (Frm (rwB q La R) w w3) := Lib.hid (HF2.out.trans hf3 (by simp) (fun x hx => .inl hx))
    have HNEW : Hid (∀ x ∈ rwB q (some ⟨g, 0, none⟩) R1, x ∈ rwB q La R ∨ w.heap.size ≤ x) := Lib.hid fun x hx => by
      rcases hnew x hx with h | h
      · exact .inl h
      · have := HF2.out.size; exact .inr (by omega)
    have HND := Lib.hid hnode
    have HID := Lib.hid hid
    have HRS := Lib.hid hrs
    have HGO := Lib.hid hgone
    obtain ⟨rn, hrn⟩ : ∃ rn, rn = R1.length := ⟨_, rfl⟩
    rw [← hrn] at hbox
    have hi2 : i < rn := by omega
    have HRN := Lib.hid hrn
    obtain ⟨gn, hgn⟩ : ∃ gn, gn = (R1.getD i default).gone := ⟨_, rfl⟩
    rw [← hgn] at c2 HGO
    have HGN := Lib.hid hgn
    have hrn6 : rn ≤ 1000000 := by have := hrs.few.1; omega
    clear hrs hnode hid hf3 hnew hgone hrb3 hrn HR2 HOF hcode hc0 hgn
    cases gn with
    | true =>
      have hsay : say1 (nodeOf R) b = none := by
        unfold say1 shPre
        rw [HT.out.1]
        simp only [Option.bind_some]
        rw [HT.out.2]
        simp only [Option.bind_some]
        rw [if_pos HGO.out]
      have HE : Hid (SaysEnd w B F q dv La R m b (.returned (.bool false)) w3) := Lib.hid ⟨_, Lc1, R1, by rw [hsay]; rfl, (HRS.out.keep (F' := F) (Frm.refl [] _) (by simp) (fun x hx => .inl (by simp [hx]))).more (by omega), (fun S' h => by rw [hsay] at h; cases h), HF3.out, HNEW.out⟩
      clear hsay
      go_wp2
      go_ret
      exact HE.out
    | false =>
      have hPR1 : ∀ y ∈ rwB q (some ⟨g, 0, none⟩) R1, ¬ Pb y := fun y hy hp => by
        rcases HNEW.out y hy with h | h
        · exact HPR.out y h hp
        · have := HPLT.out y hp; omega
      have hgw : g ∈ rwB q (some ⟨g, 0, none⟩) R1 := by unfold rwB; simp
      have hgrb : rb ∉ rwB q (some ⟨g, 0, none⟩) R1 → True := fun _ => trivial
      have hrbg : ¬ rb = g := fun e => by
        obtain ⟨a, l, cap, code, h1, _⟩ := HR3.out
        have h2 := HRS.out.own
        rcases h2.2 with ⟨hv, _⟩ | ⟨g', cap', cur, hv, _, hh, _⟩
        · simp at hv
        · simp only [Value.slice.injEq, Option.some.injEq, Addr.mk.injEq, and_true, true_and] at hv
          have h3 : w3.heap[rb]? = some (.cells #[.slice a l.length cap, .int .i64 (code : Nat)] 120 (0, 0)) := h1
          rw [e, hv.1, hh] at h3
          simp at h3
      have HG3 : Hid (¬ Pb g) := Lib.hid (hPR1 g hgw)
      have HRBG := Lib.hid hrbg
      have HLF : Hid (∀ x ∈ rb :: F, x < w3.heap.size) := Lib.hid fun x hx => by
        rcases List.mem_cons.1 hx with rfl | h1
        · exact HR3.out.lt.2
        · have h2 := HF.out x h1; have h3 := HF3.out.size; omega
      have FIN : Hid (∀ w4 w5 x R' cc, Turned w3 w4 B (rb :: F) q g dv Lc1 R1 (m + 1) i x R' → shPre (nodeOf R) b = some (n8, x, m2) → (cc = 0 ↔ some m2 = some ([] : List Nat)) → Frm [rb] w4 w5 → SaysEnd w B F q dv La R m b (.returned (.bool (decide (cc = 0)))) w5) := Lib.hid fun w4 w5 x R' cc ht hsh hcc hf5 => by
        refine says_end hsh ((ht.rs.keep (F' := F) hf5 (fun y hy => by simp at hy; subst hy; exact .inl (by simp)) (fun y hy => .inl (by simp [hy]))).more (by omega)) (by rw [ht.node, HND.out, HID.out]) ?_ (fun y hy => ?_) hcc
        · have h1 : Frm (rwB q La R) w w4 := HF3.out.trans ht.frm (fun y hy => hy) (fun y hy => by
            simp at hy; subst hy
            exact HNEW.out y (by unfold rwB; simp))
          exact h1.trans hf5 (fun y hy => hy) (fun y hy => .inr (by simp at hy; subst hy; have := HRB.out; omega))
        · rcases ht.new y hy with h1 | h1
          · exact HNEW.out y h1
          · have := HF3.out.size; exact .inr (by omega)
      have HPR1 := Lib.hid hPR1
      clear hPR1 hgw hgrb hrbg
      have z1 := World.ownsRow.frozenAt HRS.out.own (i * 5 + 1)
      by_cases k2 : n1 = 2
      · have b1 : ((n1 : Int) == 1) = false := by rw [beq_eq_false_iff_ne]; omega
        have b2 : ((n1 : Int) == 2) = true := by rw [beq_iff_eq]; omega
        have hsh : shPre (nodeOf R) b = some (n8, fenL (nodeOf R n8), m2) := by
          unfold shPre
          rw [HT.out.1]
          simp only [Option.bind_some]
          rw [HT.out.2]
          simp only [Option.bind_some]
          rw [if_neg (by rw [HGO.out]; simp)]
          unfold sayL
          rw [if_neg (by omega), if_pos k2]
          rfl
        have ht := HRS.out.fenced HLF.out hi
        have hr4 := HR3.out.keep ht.frm (fun x hx => by simp at hx; subst hx; exact HG3.out) (by simpa using HRBG.out)
        have HEN := Lib.hid (rg_end hr4)
        have HTU := Lib.hid ht
        have HSH := Lib.hid hsh
        clear hsh ht hr4
        go_wp2_with fail
        (with_reducible refine HEN.out.mono ?_)
        rintro e w5 ⟨cc, rfl, hcc, hf5⟩
        have HE : Hid (SaysEnd w B F q dv La R m b (.returned (.bool (decide (cc = 0)))) w5) := Lib.hid (FIN.out _ _ _ _ _ HTU.out (by rw [HND.out, HID.out]; exact HSH.out) hcc hf5)
        clear hcc hf5 HEN
        by_cases hc0 : cc = 0
        · rw [decide_eq_true hc0] at HE
          have hcb : ((cc : Int) == 0) = true := by rw [hc0]; rfl
          go_wp2
          go_ret
          exact HE.out
        · rw [decide_eq_false hc0] at HE
          have hcb : ((cc : Int) == 0) = false := by rw [beq_eq_false_iff_ne]; omega
          go_wp2
          go_ret
          exact HE.out
      · have b2 : ((n1 : Int) == 2) = false := by rw [beq_eq_false_iff_ne]; omega
        by_cases k3 : n1 = 3
        · have b1 : ((n1 : Int) == 1) = false := by rw [beq_eq_false_iff_ne]; omega
          have b3 : ((n1 : Int) == 3) = true := by rw [beq_iff_eq]; omega
          have hsh : shPre (nodeOf R) b = some (n8, dropL, m2) := by
            unfold shPre
            rw [HT.out.1]
            simp only [Option.bind_some]
            rw [HT.out.2]
            simp only [Option.bind_some]
            rw [if_neg (by rw [HGO.out]; simp)]
            unfold sayL
            rw [if_neg (by omega), if_neg k2, if_pos k3]
            rfl
          have ht := HRS.out.dropped HLF.out hi
          rw [HID.out] at ht c0
          have hr4 := HR3.out.keep ht.frm (fun x hx => by simp at hx; subst hx; exact HG3.out) (by simpa using HRBG.out)
          have HEN := Lib.hid (rg_end hr4)
          have HTU := Lib.hid ht
          have HSH := Lib.hid hsh
          have y0 := World.ownsRow.frozenAt HRS.out.own (i * 5)
          have y2 := World.ownsRow.frozenAt HRS.out.own (i * 5 + 2)
          have y3 := World.ownsRow.frozenAt HRS.out.own (i * 5 + 3)
          have y4 := World.ownsRow.frozenAt HRS.out.own (i * 5 + 4)
          obtain ⟨wd, hwd⟩ : ∃ wd, wd = dropW w3 g i n8 := ⟨_, rfl⟩
          rw [← hwd] at HEN HTU
          unfold dropW at hwd
          have HWD := Lib.hid hwd
          clear hsh ht hr4 hwd
          go_wp2_with fail
          rw [← HWD.out]
          (with_reducible refine HEN.out.mono ?_)
          rintro e w5 ⟨cc, rfl, hcc, hf5⟩
          have HE : Hid (SaysEnd w B F q dv La R m b (.returned (.bool (decide (cc = 0)))) w5) := Lib.hid (FIN.out _ _ _ _ _ HTU.out HSH.out hcc hf5)
          clear hcc hf5 HEN
          by_cases hc0 : cc = 0
          · rw [decide_eq_true hc0] at HE
            have hcb : ((cc : Int) == 0) = true := by rw [hc0]; rfl
            go_wp2
            go_ret
            exact HE.out
          · rw [decide_eq_false hc0] at HE
            have hcb : ((cc : Int) == 0) = false := by rw [beq_eq_false_iff_ne]; omega
            go_wp2
            go_ret
            exact HE.out
        · have b3 : ((n1 : Int) == 3) = false := by rw [beq_eq_false_iff_ne]; omega
          by_cases k1 : n1 = 1
          · have b1 : ((n1 : Int) == 1) = true := by rw [beq_iff_eq]; omega
            have HA := Lib.hid (rg_num 8 8 rfl HR3.out (by omega))
            go_wp2_with fail
            (with_reducible refine HA.out.mono ?_)
            rintro e w4 ⟨n4, o4, rfl, e4, l4, hr4, hf4⟩
            have HF4 := Lib.hid hf4
            have HE4 := Lib.hid e4
            have HL4 := Lib.hid l4
            obtain ⟨gx, hgx⟩ : ∃ gx, gx = w4.heap.size := ⟨_, rfl⟩
            have hWx := Whole.made w4 57 #[.int .u64 (n4 : Nat), .slice none 0 0]
            have hfx : Frm [] w4 (w4.alloc (.cells #[.int .u64 (n4 : Nat), .slice none 0 0] 57)) := (Frm.refl _ _).alloc _
            have hne : ¬ gx = rb := by have := hr4.lt.2; omega
            rw [← hgx] at hWx
            obtain ⟨wx, hwx⟩ : ∃ wx, wx = w4.alloc (.cells #[.int .u64 (n4 : Nat), .slice none 0 0] 57) := ⟨_, rfl⟩
            rw [← hwx] at hWx hfx
            have hrx := hr4.keep hfx (by simp) (by simp)
            have HFx : Hid (Frm [rb] w3 wx) := Lib.hid (HF4.out.trans hfx (fun x hx => hx) (by simp))
            have HB4 := Lib.hid (rg_num 8 8 rfl hrx (by omega))
            have HGX := Lib.hid hgx
            have HWX := Lib.hid hwx
            have HG4 : Hid (w3.heap.size ≤ gx) := Lib.hid (by have := HF4.out.size; omega)
            have HWW := Lib.hid hWx
            clear HA e4 l4 hr4 hf4 hfx hrx hgx hwx hWx
            go_wp2_with fail
            rw [← HWX.out, ← HGX.out]
            (with_reducible refine HB4.out.mono ?_)
            rintro e w5 ⟨n5, o5, rfl, e5, l5, hr5, hf5⟩
            have HE5 := Lib.hid e5
            have HL5 := Lib.hid l5
            have HF5 : Hid (Frm [rb] w3 w5) := Lib.hid (HFx.out.trans hf5 (fun x hx => hx) (fun x hx => .inl hx))
            have HW5 := Lib.hid (hf5.whole HWW.out (by simpa using hne))
            have HBY := Lib.hid (rg_bytes hr5)
            clear HB4 e5 l5 hr5 hf5
            go_wp2_with fail
            (with_reducible refine HBY.out.mono ?_)
            rintro e w6 ⟨v, va, vn, vc, o6, rfl, hvn, e6, hbv, hpv, hvnil, hr6, hf6⟩
            have hW6 := hf6.whole HW5.out (by simpa using hne)
            have x0 := hW6.cell 0
            have x1 := hW6.cell 1
            have y1 := hW6.free 1
            simp at x0 x1
            have HE6 := Lib.hid e6
            have HF6 : Hid (Frm [rb] w3 w6) := Lib.hid (HF5.out.trans hf6 (fun x hx => hx) (fun x hx => .inl hx))
            have hfs : Frm [gx] w6 (w6.setCell ⟨gx, 1, none⟩ (.slice va vn vc)) := (Frm.refl _ _).setCell (.inl (by simp)) _
            have hWs := hW6.put 1 (.slice va vn vc)
            obtain ⟨ws, hws⟩ : ∃ ws, ws = w6.setCell ⟨gx, 1, none⟩ (.slice va vn vc) := ⟨_, rfl⟩
            rw [← hws] at hfs hWs
            have HFS : Hid (Frm [rb] w3 ws) := Lib.hid (HF6.out.trans hfs (fun x hx => hx) (fun x hx => .inr (by simp at hx; subst hx; exact HG4.out)))
            have hpg : ¬ Pb gx := fun hp => by have h1 := HPLT.out gx hp; have h2 := HF3.out.size; have h3 := HG4.out; omega
            have hrs := hr6.keep hfs (fun x hx => by simp at hx; subst hx; exact hpg) (by simp; exact fun h => hne h.symm)
            have HBV := Lib.hid (hfs.bytes' hbv (fun hn x hx hm => by simp at hm; exact hpg (hm ▸ hpv hn x hx)))
            have HRG := Lib.hid hrs
            have HSS := Lib.hid (says_add HT.out.1 HT.out.2 k1 HGO.out HE4.out HE5.out HE6.out)
            have HWS := Lib.hid hWs
            have HWSE := Lib.hid hws
            have HVN := Lib.hid hvnil
            have HPV := Lib.hid hpv
            have HVL := hvn
            clear e6 hbv hpv hr6 hf6 hW6 hfs hWs hws hpg hrs HBY hvnil
            by_cases ho6 : o6 = some []
            · subst ho6
              obtain ⟨hsh, hvl⟩ := HSS.out.2 rfl
              have hrbF : rb ∉ rwB q (some ⟨g, 0, none⟩) R1 := fun hm => (HRS.out.out rb hm).1 (by simp)
              have HR7 := Lib.hid (HRS.out.keep (F' := rb :: F) HFS.out (fun x hx => by simp at hx; subst hx; exact .inl (by simp)) (fun x hx => .inl hx))
              have hF7 : ∀ x ∈ rb :: F, x < ws.heap.size := fun x hx => by have h1 := HLF.out x hx; have h2 := HFS.out.size; omega
              have HPUT := Lib.hid (rput_any i n4 va vn vc v HR7.out hF7 (by omega) hi (by have := HL4.out; simpa using this) HBV.out HVL HVN.out (by omega))
              have x7 := HWS.out.cell 0
              have x8 := HWS.out.cell 1
              simp at x7 x8
              have HSH := Lib.hid hsh
              have HRBF := Lib.hid hrbF
              have hl8 : (R1.getD i default).lg = nodeOf R n8 := by rw [← HND.out, ← HID.out, nodeOf_at HRS.out.ids hi]
              have HL8 := Lib.hid hl8
              have HF7 := Lib.hid hF7
              clear hsh hvl hrbF hl8 hF7
              go_wp2_with fail
              rw [← HWSE.out]
              (with_reducible refine (rg_end0 HRG.out).mono ?_)
              rintro e w' ⟨rfl, rfl⟩
              go_wp2_with fail
              (with_reducible refine HPUT.out.mono ?_)
              rintro e w8 ⟨y, rfl, hyid, hylg, hrs8, hf8, hnew8⟩
              have HR8 := Lib.hid (HRG.out.keep hf8 HPR1.out HRBF.out)
              have hi8 : i < (R1.set i y).length := by simpa using hi
              obtain ⟨g', hg', d0, d1, d2, d3, d4⟩ := hrs8.at hi8
              cases hg'
              have hgy : (R1.set i y).getD i default = y := by simp [hi]
              rw [hgy] at d3
              obtain ⟨ys, hys⟩ : ∃ ys, ys = y.sure := ⟨_, rfl⟩
              rw [← hys] at d3
              have hyl : y.lg = { nodeOf R n8 with ents := putE (nodeOf R n8).ents n4 v } := by
                rw [hylg, HL8.out]
                rw [show its (R1.getD i default).X = (nodeOf R n8).ents from by rw [← HL8.out]; rfl]
              have hysS : ys = (nodeOf R n8).sure := by
                rw [hys]
                have := congrArg Lg.sure hyl
                exact this
              have hnd8 : nodeOf (R1.set i y) = updS (nodeOf R) n8 y.lg := by rw [nodeOf_set HRS.out.ids hi hyid, hyid, HID.out, HND.out]
              have hfw8 : Frm (rwB q La R) w w8 := (HF3.out.trans HFS.out (fun x hx => hx) (fun x hx => .inr (by simp at hx; subst hx; have := HRB.out; omega))).trans hf8 (fun x hx => hx) (fun x hx => HNEW.out x hx)
              have hnew8' : ∀ x ∈ rwB q (some ⟨g, 0, none⟩) (R1.set i y), x ∈ rwB q La R ∨ w.heap.size ≤ x := fun x hx => by
                rcases hnew8 x hx with h | h
                · exact HNEW.out x h
                · have h1 := HFS.out.size; have h2 := HF3.out.size; exact .inr (by omega)
              have hF8 : ∀ x ∈ rb :: F, x < w8.heap.size := fun x hx => by have h1 := HF7.out x hx; have h2 := hf8.size; omega
              have ht := hrs8.sured hF8 hi8 n5 (by have := HL5.out; simpa using this)
              have yz := World.ownsRow.frozenAt hrs8.own (i * 5 + 3)
              by_cases hgt : ys < n5
              · have hdec : decide ((ys : Int) < (n5 : Int)) = true := decide_eq_true (by omega)
                have hr9 := HR8.out.keep ht.frm (fun x hx => by simp at hx; subst hx; exact HG3.out) (by simpa using HRBG.out)
                have HEN := Lib.hid (rg_end0 hr9)
                have HE : Hid (SaysEnd w B F q dv La R m b (.returned (.bool (decide (0 = 0)))) (w8.setCell ⟨g, i * 5 + 3, none⟩ (.int .u64 (n5 : Nat)))) := Lib.hid (says_end HSH.out ((ht.rs.keep (F' := F) (Frm.refl [] _) (by simp) (fun x hx => .inl (by simp [hx]))).more (by omega)) (by
                  rw [ht.node, hgy, hyid, HID.out, hnd8]
                  funext z
                  unfold updS
                  by_cases hz : z = n8
                  · rw [if_pos hz, if_pos hz, if_pos rfl, hyl]
                    unfold addL
                    rw [show max (nodeOf R n8).sure n5 = n5 by omega]
                  · rw [if_neg hz, if_neg hz, if_neg hz]) (hfw8.trans ht.frm (fun x hx => hx) (fun x hx => by
                    simp at hx; subst hx
                    exact HNEW.out x (by unfold rwB; simp))) (fun x hx => by
                    rcases ht.new x hx with h | h
                    · exact hnew8' x h
                    · have := hfw8.size; exact .inr (by omega)) (by simp))
                clear hr9 ht hyl hysS hnd8 hfw8 hnew8' hF8 hylg hrs8 hf8 hnew8
                go_wp2_with fail
                (with_reducible refine HEN.out.mono ?_)
                rintro e w' ⟨rfl, rfl⟩
                go_wp2
                go_ret
                exact HE.out
              · have hdec : decide ((ys : Int) < (n5 : Int)) = false := decide_eq_false (by omega)
                have HEN := Lib.hid (rg_end0 HR8.out)
                have HE : Hid (SaysEnd w B F q dv La R m b (.returned (.bool (decide (0 = 0)))) w8) := Lib.hid (says_end HSH.out ((hrs8.keep (F' := F) (Frm.refl [] _) (by simp) (fun x hx => .inl (by simp [hx]))).more (by omega)) (by
                  rw [hnd8, hyl]
                  unfold addL
                  rw [show max (nodeOf R n8).sure n5 = (nodeOf R n8).sure by omega]) hfw8 hnew8' (by simp))
                clear ht hyl hysS hnd8 hfw8 hnew8' hF8 hylg hrs8 hf8 hnew8
                go_wp2_with fail
                (with_reducible refine HEN.out.mono ?_)
                rintro e w' ⟨rfl, rfl⟩
                go_wp2
                go_ret
                exact HE.out
            · have HEN := Lib.hid (rg_end HRG.out)
              go_wp2_with fail
              rw [← HWSE.out]
              (with_reducible refine HEN.out.mono ?_)
              rintro e w7 ⟨cc, rfl, hcc, hf7⟩
              have HF7 : Hid (Frm [rb] w3 w7) := Lib.hid (HFS.out.trans hf7 (fun x hx => hx) (fun x hx => .inl hx))
              have HR7 := Lib.hid (HRS.out.keep (F' := rb :: F) HF7.out (fun x hx => by simp at hx; subst hx; exact .inl (by simp)) (fun x hx => .inl hx))
              have HW7 : Hid (Frm (rwB q La R) w w7) := Lib.hid (HF3.out.trans HF7.out (fun x hx => hx) (fun x hx => .inr (by simp at hx; subst hx; have := HRB.out; omega)))
              have hc0 : ¬ cc = 0 := fun h => ho6 (hcc.1 h)
              have hcb : ((cc : Int) != 0) = true := by rw [bne_iff_ne]; omega
              have hsay := HSS.out.1 ho6
              have HE : Hid (SaysEnd w B F q dv La R m b (.returned (.bool false)) w7) := Lib.hid ⟨_, Lc1, R1, by rw [hsay]; rfl, (HR7.out.keep (F' := F) (Frm.refl [] _) (by simp) (fun x hx => .inl (by simp [hx]))).more (by omega), (fun S' h => by rw [hsay] at h; cases h), HW7.out, HNEW.out⟩
              clear hsay hcc hf7 HEN ho6
              go_wp2
              go_ret
              exact HE.out
          · have b1 : ((n1 : Int) == 1) = false := by rw [beq_eq_false_iff_ne]; omega
            have hsay : say1 (nodeOf R) b = none := by
              unfold say1 shPre
              rw [HT.out.1]
              simp only [Option.bind_some]
              rw [HT.out.2]
              simp only [Option.bind_some]
              rw [if_neg (by rw [HGO.out]; simp)]
              unfold sayL
              rw [if_neg k1, if_neg k2, if_neg k3]
              rfl
            have HE : Hid (SaysEnd w B F q dv La R m b (.returned (.bool false)) w3) := Lib.hid ⟨_, Lc1, R1, by rw [hsay]; rfl, (HRS.out.keep (F' := F) (Frm.refl [] _) (by simp) (fun x hx => .inl (by simp [hx]))).more (by omega), (fun S' h => by rw [hsay] at h; cases h), HF3.out, HNEW.out⟩
            clear hsay
            go_wp2
            go_ret
            exact HE.out
end Go.Proofs.YtamcandcfainfaaGreat
