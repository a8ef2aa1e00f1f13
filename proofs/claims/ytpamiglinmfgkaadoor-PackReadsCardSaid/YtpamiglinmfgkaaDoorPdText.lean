/- (For PackReads' own seat.) Text and Fail on both sides; a thing, taken on both sides: as much is left on both, or both have the same fault. -/
import Derived.Test.YtpamiglinmfgkaaDoorPdFault
import Derived.Test.YtpamiglinmfgkaaDoorPdValid
namespace Go.Proofs.YtpamiglinmfgkaaDoor
open Go.RowKit

def VOk (V : List Nat → Bool) : Prop := ∀ l b, Val (false, l) b → V l = b
abbrev Tabs (w : World) : Prop := Lib.Utf8Tabs 0 1 w
theorem Tabs.keep {w w' : World} {S : List Nat} (h : Tabs w) (hf : Frm S w w') (hS : ∀ x ∈ S, 2 ≤ x) : Tabs w' :=
  ⟨fun c hc => frm_at hf (h.1 c hc) (fun hm => by have := hS _ hm; simp at this), fun i hi => ⟨frm_at hf (h.2 i hi).1 (fun hm => by have := hS _ hm; simp at this), frm_at hf (h.2 i hi).2 (fun hm => by have := hS _ hm; simp at this)⟩⟩
theorem valid_V {V : List Nat → Bool} (hV : VOk V) {w : World} {a : Option Addr} {l : List Nat} {n cap : Nat} (h : Bytes w a l) (hn : n = l.length) (hc : n ≤ cap) (hfit : n ≤ 140737488355328) (hT : Tabs w) :
    Calls Tryd.prog 34 #[.slice a n cap] w (fun e w' => e = .returned (.bool (V l)) ∧ Frm [] w w') :=
  (valid_any h hn hc hfit hT).mono fun _ _ ⟨b, he, hv, hf⟩ => ⟨by rw [he, hV l b hv], hf⟩

def FaultS (w : World) (qb : Nat) (c : Int) (e : Ending) (w' : World) : Prop := ∃ s, e = .returned (.string s) ∧ RFault w' qb c ∧ Frm [qb] w w'
def RQText (w : World) (qb : Nat) (l : List Nat) (B n : Nat) (e : Ending) (w' : World) : Prop := e = .returned (.string (strOf ((l.drop 4).take n))) ∧ RQ w' qb (l.drop (4 + n)) B ∧ Frm [qb] w w'

set_option maxHeartbeats 1000000 in
theorem rqtext_none {w : World} {qb : Nat} (h : Calls Tryd.prog 26 #[.pointer (some ⟨qb, 0, none⟩)] w (Faulted w qb (.slice none 0 0) 4)) :
    Calls Tryd.prog 28 #[.pointer (some ⟨qb, 0, none⟩)] w (FaultS w qb 4) := by
  have HN := Lib.hid h
  have hcv := fun (w : World) => run_to_string (P := Tryd.prog) (src := 22) (dst := 9) (e := 5) Tryd.underlying22 Tryd.underlying5 Tryd.underlying9 (n := 0) (c := 0) (Bytes.nil (w := w) none) rfl
  clear h
  go_enter Tryd.func28, Tryd.ntmps28
  go_wp2_with fail
  refine HN.out.mono ?_
  rintro e w1 ⟨rfl, ⟨v, hv⟩, hf⟩
  have c1 := hv.cell 1
  simp at c1
  have FA : Hid (RFault w1 qb 4) := ⟨v, hv⟩
  have F := Lib.hid hf
  clear hv hf
  go_wp2
  go_ret
  exact ⟨_, rfl, FA.out, F.out⟩

set_option maxHeartbeats 2000000 in
theorem rqtext_some {V : List Nat → Bool} (hV : VOk V) {w : World} {qb : Nat} {l : List Nat} {B : Nat} (h : RQ w qb l B) (hT : Tabs w) (hB : 2 ≤ B) (hqB : B ≤ qb) (hl : 4 ≤ l.length) (z : Nat) (hz : val (l.take 4) = z) (hn : z ≤ l.length - 4) (hfit : l.length ≤ 100000) :
    Calls Tryd.prog 28 #[.pointer (some ⟨qb, 0, none⟩)] w (fun e w' => (V ((l.drop 4).take z) = true ∧ RQText w qb l B z e w') ∨ (V ((l.drop 4).take z) = false ∧ FaultS w qb 6 e w')) := by
  have HN := Lib.hid (rqbytes_ok h hqB hl z hz hn)
  have HL : Hid (z = ((l.drop 4).take z).length) := by show z = _; simp; omega
  have TB := Lib.hid hT
  have HB2 : Hid (2 ≤ qb) := Nat.le_trans hB hqB
  have HQB := Lib.hid hqB
  have hzf : z ≤ 140737488355328 := by omega
  clear h hl hz hn hT hB hqB
  go_enter Tryd.func28, Tryd.ntmps28
  go_wp2_with fail
  refine HN.out.mono ?_
  rintro e w1 ⟨a, cap, rfl, hb, hc, hab, hq, hf⟩
  have FA := Lib.hid (fun (W : World) (hfr : Frm [] w1 W) => (hq.keep hfr (by simp) (by simp)).fault 6)
  have RQK := Lib.hid (fun (W : World) (hfr : Frm [] w1 W) => hq.keep hfr (by simp) (by simp))
  have TB1 : Hid (Tabs w1) := TB.out.keep hf (fun x hx => by simp at hx; rw [hx]; exact HB2.out)
  have BB := Lib.hid hb
  have F := Lib.hid hf
  obtain ⟨qa, qc, hq, _⟩ := hq
  have QW := Lib.hid hq.whole
  have NEQ : Hid ((l.drop 4).take z ≠ [] → ∀ x, a = some x → x.block ≠ qb) := fun hne x hx => by have h1 := hab hne x hx; have := HQB.out; omega
  have c1 := hq.whole.cell 1
  simp at c1
  clear hb hf hq hab
  go_wp2_with fail
  refine (valid_V hV BB.out HL.out hc hzf TB1.out).mono ?_
  rintro e w2 ⟨rfl, hf2⟩
  have QW2 : Hid (Whole w2 qb 26 #[.slice qa (l.drop (4 + z)).length qc, .int .i64 0]) := hf2.whole QW.out (by simp)
  have F2 := Lib.hid hf2
  have f1 := QW2.out.free 1
  have c2 := QW2.out.cell 1
  simp at c2
  have hcv := fun (W : World) (hfr : Bytes W a ((l.drop 4).take z)) => run_to_string (P := Tryd.prog) (src := 22) (dst := 9) (e := 5) Tryd.underlying22 Tryd.underlying5 Tryd.underlying9 (n := z) (c := cap) hfr HL.out
  clear c1 hf2
  cases hv : V ((l.drop 4).take z) with
  | true =>
    have b2 : Bytes w2 a ((l.drop 4).take z) := F2.out.bytes BB.out (by simp)
    have hcv2 := hcv w2 b2
    have HV := Lib.hid hv
    clear hcv b2 hv
    go_wp2
    go_ret
    exact .inl ⟨HV.out, rfl, RQK.out w2 F2.out, F.out.trans F2.out (by simp) (by simp)⟩
  | false =>
    have f3 := (FA.out w2 F2.out).2
    have b2 : Bytes (w2.setCell ⟨qb, 1, none⟩ (.int .i64 6)) a ((l.drop 4).take z) := by
      obtain ⟨h1, h2, h3⟩ := BB.out
      refine ⟨h1, h2, ?_⟩
      rcases h3 with h3 | ⟨b, off, ha, h3⟩
      · exact .inl h3
      · exact .inr ⟨b, off, ha, fun i hi => frm_at f3 (frm_at F2.out (h3 i hi) (by simp)) (by have := NEQ.out (fun h0 => by rw [h0] at hi; simp at hi) ⟨b, off, none⟩ ha; simpa using this)⟩
    have hcv2 := hcv _ b2
    have HV := Lib.hid hv
    clear hcv b2 hv f3
    go_wp2
    go_ret
    exact .inr ⟨HV.out, _, rfl, (FA.out w2 F2.out).1, (F.out.trans F2.out (U := [qb]) (by simp) (by simp)).trans (FA.out w2 F2.out).2 (by simp) (by simp)⟩

set_option maxHeartbeats 1000000 in
theorem rtext_none {w : World} {rb cb : Nat} (h : Calls Tryd.prog 33 #[.pointer (some ⟨rb, 0, none⟩)] w (Thrown w rb cb 4)) :
    Calls Tryd.prog 29 #[.pointer (some ⟨rb, 0, none⟩)] w (Thrown w rb cb 4) := by
  have HN := Lib.hid h
  clear h
  go_enter Tryd.func29, Tryd.ntmps29
  go_wp2_with fail
  refine HN.out.mono ?_
  rintro e w' ⟨rfl, h1, h2⟩
  exact ⟨rfl, rfl, h1, h2⟩

set_option maxHeartbeats 2000000 in
theorem rtext_some {V : List Nat → Bool} (hV : VOk V) {w : World} {rb cb db : Nat} {l : List Nat} (h : Rdr w rb cb db l) (hT : Tabs w) (hB : 2 ≤ rb) (hl : 4 ≤ l.length) (hdb : db < w.heap.size) (z : Nat) (hz : val (l.take 4) = z) (hn : z ≤ l.length - 4) (hfit : l.length ≤ 100000) :
    Calls Tryd.prog 29 #[.pointer (some ⟨rb, 0, none⟩)] w (fun e w' => (V ((l.drop 4).take z) = true ∧ e = .returned (.string (strOf ((l.drop 4).take z))) ∧ Rdr w' rb cb db (l.drop (4 + z)) ∧ Frm [rb] w w') ∨ (V ((l.drop 4).take z) = false ∧ Thrown w rb cb 6 e w')) := by
  have HN := Lib.hid (counted_ok h hl hdb z hz hn)
  have HL : Hid (z = ((l.drop 4).take z).length) := by show z = _; simp; omega
  have TB := Lib.hid hT
  have HB2 := Lib.hid hB
  have hzf : z ≤ 140737488355328 := by omega
  clear h hl hz hn hT hB hdb
  go_enter Tryd.func29, Tryd.ntmps29
  go_wp2_with fail
  refine HN.out.mono ?_
  rintro e w1 ⟨a, cap, rfl, hb, hc, _, _, _, hr, hf⟩
  have TB1 : Hid (Tabs w1) := TB.out.keep hf (fun x hx => by simp at hx; rw [hx]; exact HB2.out)
  have BB := Lib.hid hb
  have R := Lib.hid hr
  have F := Lib.hid hf
  clear hb hr hf
  go_wp2_with fail
  refine (valid_V hV BB.out HL.out hc hzf TB1.out).mono ?_
  rintro e w2 ⟨rfl, hf2⟩
  have F2 := Lib.hid hf2
  have R2 : Hid (Rdr w2 rb cb db (l.drop (4 + z))) := R.out.keep hf2 (by simp) (by simp) (by simp)
  have hcv2 := run_to_string (P := Tryd.prog) (src := 22) (dst := 9) (e := 5) Tryd.underlying22 Tryd.underlying5 Tryd.underlying9 (n := z) (c := cap) (F2.out.bytes BB.out (by simp)) HL.out
  clear hf2
  cases hv : V ((l.drop 4).take z) with
  | true =>
    have HV := Lib.hid hv
    clear hv
    go_wp2
    go_ret
    exact .inl ⟨HV.out, rfl, R2.out, F.out.trans F2.out (by simp) (by simp)⟩
  | false =>
    have HV := Lib.hid hv
    clear hv hcv2
    go_wp2_with fail
    refine (throw_any 6 R2.out).mono ?_
    rintro e w3 ⟨rfl, h1, h2⟩
    exact ⟨rfl, .inr ⟨HV.out, Thrown.early ⟨rfl, h1, h2⟩ (F.out.trans F2.out (by simp) (by simp))⟩⟩

theorem rfail_zero {w : World} {rb : Nat} :
    Calls Tryd.prog 8 #[.pointer (some ⟨rb, 0, none⟩), .int .i64 0] w (fun e w' => e = .returned (.tuple #[]) ∧ w' = w) := by
  go_enter Tryd.func8, Tryd.ntmps8
  go_wp2
  go_end0
  exact ⟨rfl, rfl⟩
theorem rfail_some {w : World} {rb cb db : Nat} {l : List Nat} (c : Nat) (h : Rdr w rb cb db l) (hc : c ≠ 0) :
    Calls Tryd.prog 8 #[.pointer (some ⟨rb, 0, none⟩), .int .i64 c] w (Thrown w rb cb c) := by
  have H := Lib.hid h
  have hne : ((c : Int) == 0) = false := by simp; omega
  have hne2 : ((c : Int) != 0) = true := by simp; omega
  clear h hc
  go_enter Tryd.func8, Tryd.ntmps8
  go_wp2_with fail
  refine (reads_any H.out).mono ?_
  rintro e w' ⟨rfl, rfl⟩
  go_wp2_with fail
  refine (throw_any c H.out).mono ?_
  rintro e w3 ⟨rfl, h1, h2⟩
  exact ⟨rfl, rfl, h1, h2⟩
end Go.Proofs.YtpamiglinmfgkaaDoor
