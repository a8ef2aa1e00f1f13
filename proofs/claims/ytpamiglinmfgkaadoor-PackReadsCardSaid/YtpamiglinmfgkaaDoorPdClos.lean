/- (For PackReads' own seat.) The closure of PackReads: both readers, kind by kind, till one throws. -/
import Derived.Test.YtpamiglinmfgkaaDoorPdOne
import Derived.Deep.AppendLies
import Derived.Deep.RegionLaw
namespace Go.Proofs.YtpamiglinmfgkaaDoor
open Go.RowKit

/-- What all kinds come to, from the i-th on. -/
def run (V : List Nat → Bool) (fail : Int) (code : Nat) : Nat → List Nat → List Nat → List Nat ⊕ Nat
  | _, [], l => .inl l
  | i, k :: ks, l => if (i : Int) = fail ∧ code ≠ 0 then .inr code else match took V k l with
    | .inl l' => run V fail code (i + 1) ks l'
    | .inr c => .inr c
theorem took_len {V : List Nat → Bool} {k : Nat} {l l' : List Nat} (h : took V k l = .inl l') (hf : l.length ≤ 100000) : l'.length ≤ 100000 := by
  unfold took at h
  repeat' split at h
  all_goals first | (cases h; done) | (injection h with h; subst h; rw [List.length_drop]; exact Nat.le_trans (Nat.sub_le _ _) hf)
theorem took_ne {V : List Nat → Bool} {k : Nat} {l : List Nat} {c : Nat} (h : took V k l = .inr c) : c = 4 ∨ c = 6 := by
  unfold took at h
  repeat' split at h
  all_goals first | (cases h; done) | (injection h with h; omega)
theorem run_ne {V : List Nat → Bool} {fail : Int} {code : Nat} {c : Nat} : ∀ {ks : List Nat} {i : Nat} {l : List Nat}, run V fail code i ks l = .inr c → c ≠ 0
  | [], _, _, h => by cases h
  | k :: ks, i, l, h => by
    unfold run at h
    split at h
    · rename_i hc; injection h with h; rw [← h]; exact hc.2
    · rcases hto : took V k l with l2 | c2 <;> rw [hto] at h
      · exact run_ne h
      · injection h with h; subst h; rcases took_ne hto with h | h <;> omega

theorem Frm.fresh {a b c : World} {S : List Nat} (h : Frm [] a b) (hS : ∀ x ∈ S, a.heap.size ≤ x) (k : Frm S b c) : Frm [] a c := h.trans k (by simp) (fun x hx => .inr (hS x hx))
/-- How the blocks lie. -/
structure Ord (B Z rb cb db gk gf gd gr gc qb gw : Nat) : Prop where
  o1 : B ≤ gk
  o2 : gk < gf
  o3 : gf < gd
  o4 : gd < gr
  o5 : gr < gc
  o6 : gc < qb
  o7 : qb < gw
  o8 : gw < Z
  o9 : Z ≤ rb
  oA : Z ≤ cb
  oB : Z ≤ db
structure LS (b0 w1 wr : World) (rb cb db gk gf gd gr gc qb gw : Nat) (ka : Option Addr) (nk kc : Nat) (fail : Int) (code : Nat) (l : List Nat) : Prop where
  frm0 : Frm [] b0 wr
  frm : Frm [rb, qb, gr, gc] w1 wr
  two : Two wr rb cb db qb l b0.heap.size
  rt : Whole wr gr 4 #[.bool true]
  ca : Whole wr gc 3 #[.int .i64 1]
  kd : Whole wr gk 22 #[.slice ka nk kc]
  fl : Whole wr gf 3 #[.int .i64 fail]
  wt : Whole wr gw 24 #[.pointer (some ⟨qb, 0, none⟩)]
  cd : Whole wr gd 5 #[.int .u8 code]
section
variable {b0 w1 wr : World} {Z rb cb db gk gf gd gr gc qb gw : Nat} {ka : Option Addr} {nk kc : Nat} {fail : Int} {code : Nat} {l l' : List Nat}
theorem LS.keep {wr' : World} (h : LS b0 w1 wr rb cb db gk gf gd gr gc qb gw ka nk kc fail code l) (hf : Frm [] wr wr') : LS b0 w1 wr' rb cb db gk gf gd gr gc qb gw ka nk kc fail code l :=
  ⟨h.frm0.trans hf (by simp) (by simp), h.frm.trans hf (by simp) (by simp), h.two.keep hf (by simp), hf.whole h.rt (by simp), hf.whole h.ca (by simp), hf.whole h.kd (by simp), hf.whole h.fl (by simp), hf.whole h.wt (by simp), hf.whole h.cd (by simp)⟩
theorem LS.one {wr' : World} (h : LS b0 w1 wr rb cb db gk gf gd gr gc qb gw ka nk kc fail code l) (o : Ord b0.heap.size Z rb cb db gk gf gd gr gc qb gw) (hf : Frm [rb, qb] wr wr') (ht : Two wr' rb cb db qb l' b0.heap.size) : LS b0 w1 wr' rb cb db gk gf gd gr gc qb gw ka nk kc fail code l' := by
  obtain ⟨o1, o2, o3, o4, o5, o6, o7, o8, o9, oA, oB⟩ := o
  exact ⟨h.frm0.fresh (fun x hx => by simp at hx; omega) hf, h.frm.trans hf (by simp) (by simp), ht, hf.whole h.rt (by simp; omega), hf.whole h.ca (by simp; omega), hf.whole h.kd (by simp; omega), hf.whole h.fl (by simp; omega), hf.whole h.wt (by simp; omega), hf.whole h.cd (by simp; omega)⟩
theorem LS.store (h : LS b0 w1 wr rb cb db gk gf gd gr gc qb gw ka nk kc fail code l) (o : Ord b0.heap.size Z rb cb db gk gf gd gr gc qb gw) : LS b0 w1 (wr.setCell ⟨gr, 0, none⟩ (.bool true)) rb cb db gk gf gd gr gc qb gw ka nk kc fail code l := by
  obtain ⟨o1, o2, o3, o4, o5, o6, o7, o8, o9, oA, oB⟩ := o
  have hf : Frm [gr] wr (wr.setCell ⟨gr, 0, none⟩ (.bool true)) := (Frm.refl _ _).setCell (.inl (by simp)) _
  exact ⟨h.frm0.fresh (fun x hx => by simp at hx; omega) hf, h.frm.trans hf (by simp) (by simp), h.two.keep hf (fun x hx => by simp at hx; omega), h.rt.put 0 _, hf.whole h.ca (by simp; omega), hf.whole h.kd (by simp; omega), hf.whole h.fl (by simp; omega), hf.whole h.wt (by simp; omega), hf.whole h.cd (by simp; omega)⟩
/-- The reference is told the fault 0, which is none. -/
theorem LS.nofault (h : LS b0 w1 wr rb cb db gk gf gd gr gc qb gw ka nk kc fail code l) (o : Ord b0.heap.size Z rb cb db gk gf gd gr gc qb gw) : LS b0 w1 (wr.setCell ⟨qb, 1, none⟩ (.int .i64 0)) rb cb db gk gf gd gr gc qb gw ka nk kc fail code l := by
  obtain ⟨o1, o2, o3, o4, o5, o6, o7, o8, o9, oA, oB⟩ := o
  have hf : Frm [qb] wr (wr.setCell ⟨qb, 1, none⟩ (.int .i64 0)) := (Frm.refl _ _).setCell (.inl (by simp)) _
  obtain ⟨t1, ⟨a, cap, hr, hb⟩, t3, t4, t5, t6, t7, t8, t9, tA, tB, tC⟩ := h.two
  have hq : RQ (wr.setCell ⟨qb, 1, none⟩ (.int .i64 0)) qb l b0.heap.size :=
    ⟨a, cap, ⟨by simpa using hr.whole.put 1 (.int .i64 0), hf.bytes' hr.bytes (fun hne x hx => by have := hb hne x hx; simp; omega), hr.le, hr.nil, hr.apart⟩, hb⟩
  exact ⟨h.frm0.fresh (fun x hx => by simp at hx; omega) hf, h.frm.trans hf (by simp) (by simp), ⟨t1.keep hf (by simp; omega) (by simp; omega) (by simp; omega), hq, t3.keep hf (fun x hx => by simp at hx; omega), t4, t5, t6, t7, t8, Nat.lt_of_lt_of_le t9 hf.size, tA, tB, tC⟩,
    hf.whole h.rt (by simp; omega), hf.whole h.ca (by simp; omega), hf.whole h.kd (by simp; omega), hf.whole h.fl (by simp; omega), hf.whole h.wt (by simp; omega), hf.whole h.cd (by simp; omega)⟩
/-- What is left behind a throw. -/
structure TS (b0 w1 w2 : World) (rb cb gr gc qb gw : Nat) (c : Nat) (e : Ending) : Prop where
  he : e = .panicked [{ v := .iface 45 (.pointer (some ⟨cb, 0, none⟩)), recovered := false }]
  frm0 : Frm [] b0 w2
  frm : Frm [rb, cb, qb, gr, gc] w1 w2
  call : Whole w2 cb 47 #[.bool false, .int .i64 c]
  rf : RFault w2 qb c
  rt : Whole w2 gr 4 #[.bool true]
  ca : Whole w2 gc 3 #[.int .i64 1]
  wt : Whole w2 gw 24 #[.pointer (some ⟨qb, 0, none⟩)]
theorem LS.er {w2 : World} {e : Ending} {c : Nat} (h : LS b0 w1 wr rb cb db gk gf gd gr gc qb gw ka nk kc fail code l) (o : Ord b0.heap.size Z rb cb db gk gf gd gr gc qb gw) (he : Er2 wr rb cb qb c e w2) : TS b0 w1 w2 rb cb gr gc qb gw c e := by
  obtain ⟨o1, o2, o3, o4, o5, o6, o7, o8, o9, oA, oB⟩ := o
  obtain ⟨h1, h2, h3, hf⟩ := he
  exact ⟨h1, h.frm0.fresh (fun x hx => by simp at hx; omega) hf, h.frm.trans hf (by simp) (by simp), h2, h3, hf.whole h.rt (by simp; omega), hf.whole h.ca (by simp; omega), hf.whole h.wt (by simp; omega)⟩
end
/-- At the loop's head. -/
def CRel (V : List Nat → Bool) (b0 w1 : World) (rb cb db gk gf gd gr gc qb gw : Nat) (ka : Option Addr) (nk kc : Nat) (fail : Int) (code : Nat) (ks : List Nat) (R : List Nat ⊕ Nat) (i : Value) (wr : World) : Prop :=
  ∃ (k : Nat) (l : List Nat), k ≤ nk ∧ i = .int .i64 k ∧ LS b0 w1 wr rb cb db gk gf gd gr gc qb gw ka nk kc fail code l ∧ l.length ≤ 100000 ∧ run V fail code k (ks.drop k) l = R
/-- What the closure leaves. -/
def CPost (b0 w1 : World) (rb cb db gk gf gd gr gc qb gw : Nat) (ka : Option Addr) (nk kc : Nat) (fail : Int) (code : Nat) (R : List Nat ⊕ Nat) (e : Ending) (w2 : World) : Prop :=
  match R with
  | .inl rest => e = .returned (.tuple #[]) ∧ LS b0 w1 w2 rb cb db gk gf gd gr gc qb gw ka nk kc fail code rest
  | .inr c => TS b0 w1 w2 rb cb gr gc qb gw c e

set_option maxRecDepth 100000 in
set_option maxHeartbeats 8000000 in
theorem reads_by {V : List Nat → Bool} (hV : VOk V) (b0 w1 : World) (Z rb cb db gk gf gd gr gc qb gw : Nat) (ka : Option Addr) (nk kc : Nat) (fail : Int) (code : Nat) (ks l : List Nat) (R : List Nat ⊕ Nat)
    (hks : Bytes b0 ka ks) (hnk : nk = ks.length) (hn60 : nk ≤ 60) (hcode : code < 256) (hfit : l.length ≤ 100000) (hR : run V fail code 0 ks l = R) (hO : Ord b0.heap.size Z rb cb db gk gf gd gr gc qb gw)
    (hca : Whole w1 gc 3 #[.int .i64 0])
    (hLS : LS b0 w1 (w1.setCell ⟨gc, 0, none⟩ (.int .i64 1)) rb cb db gk gf gd gr gc qb gw ka nk kc fail code l) :
    Calls Tryd.prog 6 (#[.pointer (some ⟨rb, 0, none⟩)] ++ #[.pointer (some ⟨gc, 0, none⟩), .pointer (some ⟨gk, 0, none⟩), .pointer (some ⟨gf, 0, none⟩), .pointer (some ⟨gw, 0, none⟩), .pointer (some ⟨gd, 0, none⟩), .pointer (some ⟨gr, 0, none⟩)]) w1
      (CPost b0 w1 rb cb db gk gf gd gr gc qb gw ka nk kc fail code R) := by
  have O := Lib.hid hO
  have K := Lib.hid hks
  have NK := Lib.hid hnk
  have R0 : Hid (CRel V b0 w1 rb cb db gk gf gd gr gc qb gw ka nk kc fail code ks R (.int .i64 (0 : Nat)) (w1.setCell ⟨gc, 0, none⟩ (.int .i64 1))) := ⟨0, l, Nat.zero_le _, rfl, hLS, hfit, by rw [List.drop_zero]; exact hR⟩
  have c0 := hca.cell 0
  have c1 := hca.free 0
  have dk := hLS.kd.cell 0
  simp at c0 c1 dk
  clear hks hnk hR hO hca hLS hfit
  show Calls Tryd.prog 6 #[.pointer (some ⟨rb, 0, none⟩), .pointer (some ⟨gc, 0, none⟩), .pointer (some ⟨gk, 0, none⟩), .pointer (some ⟨gf, 0, none⟩), .pointer (some ⟨gw, 0, none⟩), .pointer (some ⟨gd, 0, none⟩), .pointer (some ⟨gr, 0, none⟩)] w1 _
  go_enter Tryd.func6, Tryd.ntmps6
  go_wp2
  clear c0 c1 dk
  go_loopw [14] (fun i wr => CRel V b0 w1 rb cb db gk gf gd gr gc qb gw ka nk kc fail code ks R i wr) (fun i _ => nk - (intOf i).toNat)
  case atStart => exact R0.out
  case round =>
    clear R0
    obtain ⟨k, lc, hk, rfl, hls, hlf, hrun⟩ := hrel
    have HLF := Lib.hid hlf
    have HRUN := Lib.hid hrun
    clear hlf hrun
    by_cases hlt : k < nk
    · have hkk : k < ks.length := by have := NK.out; omega
      obtain ⟨kb, koff, rfl, hkc⟩ : ∃ b off, ka = some ⟨b, off, none⟩ ∧ wr.cell? ⟨b, off + k, none⟩ = some (.int .u8 (ks.getD k 0 : Nat)) := by
        rcases K.out.2.2 with h1 | ⟨b, off, h1, h2⟩
        · rw [h1] at hkk; simp at hkk
        · exact ⟨b, off, h1, frm_at hls.frm0 (h2 k hkk) (by simp)⟩
      have STEP : Hid (∀ lx, run V fail code k (ks.drop k) lx = if (k : Int) = fail ∧ code ≠ 0 then .inr code else match took V (ks.getD k 0) lx with | .inl l' => run V fail code (k + 1) (ks.drop (k + 1)) l' | .inr c => .inr c) := fun lx => by
        have e : ks.getD k 0 = ks[k] := by simp [hkk]
        rw [List.drop_eq_getElem_cons hkk, e]; rfl
      obtain ⟨kd, hkd⟩ : ∃ kd, kd = ks.getD k 0 := ⟨_, rfl⟩
      rw [← hkd] at hkc STEP
      have df := hls.fl.cell 0
      have dd := hls.cd.cell 0
      have dw0 := hls.wt.cell 0
      simp at df dd dw0
      have hltz : (k : Int) < (nk : Int) := by omega
      clear hkk hkd
      by_cases hkf : (k : Int) = fail
      · have hkb : ((k : Int) == fail) = true := by simp [hkf]
        by_cases hc0 : code = 0
        · subst hc0
          have STEP : Hid (∀ lx, run V fail 0 k (ks.drop k) lx = match took V kd lx with | .inl l' => run V fail 0 (k + 1) (ks.drop (k + 1)) l' | .inr c => .inr c) := fun lx => by rw [STEP.out, if_neg (fun h => h.2 rfl)]
          have LN := Lib.hid (hls.nofault O.out)
          have RQ0 := Lib.hid hls.two.rq
          clear hkf hls
          go_wp2_with fail
          refine (rq_fail 0 RQ0.out).mono ?_
          rintro e wA ⟨rfl, rfl⟩
          obtain ⟨WR, hWR⟩ : ∃ WR, WR = wr.setCell ⟨qb, 1, none⟩ (.int .i64 ((0 : Nat) : Int)) := ⟨_, rfl⟩
          have L : Hid (LS b0 w1 WR rb cb db gk gf gd gr gc qb gw (some ⟨kb, koff, none⟩) nk kc fail 0 lc) := by rw [hWR]; exact LN.out
          rw [← hWR]
          clear hWR LN dd df dw0 hkc
          have dd := L.out.cd.cell 0
          simp at dd
          go_wp2_with fail
          refine (rfail_zero (rb := rb) (w := WR)).mono ?_
          rintro e wB ⟨rfl, hwb⟩
          rw [hwb]
          clear dd hwb
          have ER : Hid (∀ w2 c2, TS b0 w1 w2 rb cb gr gc qb gw c2 (.panicked [{ v := .iface 45 (.pointer (some ⟨cb, 0, none⟩)), recovered := false }]) → run V fail 0 k (ks.drop k) lc = .inr c2 → CPost b0 w1 rb cb db gk gf gd gr gc qb gw (some ⟨kb, koff, none⟩) nk kc fail 0 R (.panicked [{ v := .iface 45 (.pointer (some ⟨cb, 0, none⟩)), recovered := false }]) w2) := fun w2 c2 ht hr => by
            rw [← HRUN.out, hr]; exact ht
          go_wp2
          have dr := L.out.rt.cell 0
          have fr := L.out.rt.free 0
          have dw := L.out.wt.cell 0
          obtain ⟨qa, qc, hrr, _⟩ := L.out.two.rq
          have dq := hrr.whole.cell 0
          simp at dr fr dw dq
          have f0 : Frm [] WR WR.drew := (Frm.refl _ _).drew
          clear hrr
          go_region_law (first
            | (go_simp; go_at_call 9; refine (left_any (L.out.keep f0).two.rdr).mono ?_; rintro e wx ⟨rfl, rfl⟩)
            | (go_simp; go_at_call 10; refine (one_any hV kd (L.out.keep f0).two HLF.out).mono ?_; rintro e wd hone; rcases hto : took V kd lc with l2 | c2; rotate_left 1; (rw [hto] at hone; obtain ⟨rfl, he2⟩ := id hone; exact ⟨rfl, ER.out _ c2 ((L.out.keep f0).er O.out hone) (by rw [STEP.out, hto])⟩); rw [hto] at hone; obtain ⟨rfl, htw, hfd⟩ := hone; have LD := (L.out.keep f0).one O.out hfd htw; have dr2 := LD.rt.cell 0; have fr2 := LD.rt.free 0; simp at dr2 fr2))
          all_goals
            have NX : Hid (CRel V b0 w1 rb cb db gk gf gd gr gc qb gw (some ⟨kb, koff, none⟩) nk kc fail 0 ks R (.int .i64 (k + 1 : Nat)) (wd.setCell ⟨gr, 0, none⟩ (.bool true))) := ⟨k + 1, l2, hlt, rfl, LD.store O.out, took_len hto HLF.out, by rw [← HRUN.out, STEP.out, hto]⟩
            clear dr fr dw dq dr2 fr2 LD htw hfd f0
            go_wp2
            go_roundw
            case rel => exact NX.out
            case measure => simp [intOf]; omega
        · have STEP2 : Hid (run V fail code k (ks.drop k) lc = .inr code) := by show run V fail code k (ks.drop k) lc = _; rw [STEP.out, if_pos ⟨hkf, hc0⟩]
          have L := Lib.hid hls
          have RF := Lib.hid (hls.two.rq.fault code)
          have HCD := Lib.hid hcode
          have dcd : IntKind.i64.wrap (code : Int) = (code : Int) := by rw [IntWalk.i64_in _ (by omega)]
          clear hkf hls
          go_wp2_with fail
          refine (rq_fail code L.out.two.rq).mono ?_
          rintro e wA ⟨rfl, rfl⟩
          obtain ⟨WR, hWR⟩ : ∃ WR, WR = wr.setCell ⟨qb, 1, none⟩ (.int .i64 (code : Int)) := ⟨_, rfl⟩
          rw [← hWR] at RF ⊢
          clear hWR dd df dw0 hkc
          have dd := (RF.out.2.whole L.out.cd (by have := O.out.o4; have := O.out.o5; have := O.out.o6; simp; omega)).cell 0
          simp at dd
          have RD : Hid (Rdr WR rb cb db lc) := L.out.two.rdr.keep RF.out.2 (by have := L.out.two.n1; simp; omega) (by have := L.out.two.n2; simp; omega) (by have := L.out.two.n3; simp; omega)
          go_wp2_with fail
          refine (rfail_some code RD.out hc0).mono ?_
          rintro e wB ht
          obtain ⟨rfl, _, _⟩ := id ht
          refine ⟨rfl, ?_⟩
          show CPost b0 w1 rb cb db gk gf gd gr gc qb gw (some ⟨kb, koff, none⟩) nk kc fail code R _ _
          unfold CPost
          rw [← HRUN.out, STEP2.out]
          exact L.out.er O.out (L.out.two.er RF.out.2 RF.out.1 ht)
      · have hkb : ((k : Int) == fail) = false := by simp [hkf]
        have STEP : Hid (∀ lx, run V fail code k (ks.drop k) lx = match took V kd lx with | .inl l' => run V fail code (k + 1) (ks.drop (k + 1)) l' | .inr c => .inr c) := fun lx => by rw [STEP.out, if_neg (fun h => hkf h.1)]
        have L := Lib.hid hls
        clear hkf hls
        have ER : Hid (∀ w2 c2, TS b0 w1 w2 rb cb gr gc qb gw c2 (.panicked [{ v := .iface 45 (.pointer (some ⟨cb, 0, none⟩)), recovered := false }]) → run V fail code k (ks.drop k) lc = .inr c2 → CPost b0 w1 rb cb db gk gf gd gr gc qb gw (some ⟨kb, koff, none⟩) nk kc fail code R (.panicked [{ v := .iface 45 (.pointer (some ⟨cb, 0, none⟩)), recovered := false }]) w2) := fun w2 c2 ht hr => by
          rw [← HRUN.out, hr]; exact ht
        clear dd dw0
        go_wp2
        have dr := L.out.rt.cell 0
        have fr := L.out.rt.free 0
        have dw := L.out.wt.cell 0
        obtain ⟨qa, qc, hrr, _⟩ := L.out.two.rq
        have dq := hrr.whole.cell 0
        simp at dr fr dw dq
        have f0 : Frm [] wr wr.drew := (Frm.refl _ _).drew
        clear hrr
        go_region_law (first
          | (go_simp; go_at_call 9; refine (left_any (L.out.keep f0).two.rdr).mono ?_; rintro e wx ⟨rfl, rfl⟩)
          | (go_simp; go_at_call 10; refine (one_any hV kd (L.out.keep f0).two HLF.out).mono ?_; rintro e wd hone; rcases hto : took V kd lc with l2 | c2; rotate_left 1; (rw [hto] at hone; obtain ⟨rfl, he2⟩ := id hone; exact ⟨rfl, ER.out _ c2 ((L.out.keep f0).er O.out hone) (by rw [STEP.out, hto])⟩); rw [hto] at hone; obtain ⟨rfl, htw, hfd⟩ := hone; have LD := (L.out.keep f0).one O.out hfd htw; have dr2 := LD.rt.cell 0; have fr2 := LD.rt.free 0; simp at dr2 fr2))
        all_goals
          have NX : Hid (CRel V b0 w1 rb cb db gk gf gd gr gc qb gw (some ⟨kb, koff, none⟩) nk kc fail code ks R (.int .i64 (k + 1 : Nat)) (wd.setCell ⟨gr, 0, none⟩ (.bool true))) := ⟨k + 1, l2, hlt, rfl, LD.store O.out, took_len hto HLF.out, by rw [← HRUN.out, STEP.out, hto]⟩
          clear dr fr dw dq dr2 fr2 LD htw hfd f0
          go_wp2
          go_roundw
          case rel => exact NX.out
          case measure => simp [intOf]; omega
    · obtain rfl : k = nk := by omega
      have hltz : ¬ (k : Int) < (k : Int) := by omega
      have FIN : Hid (CPost b0 w1 rb cb db gk gf gd gr gc qb gw ka k kc fail code R (.returned (.tuple #[])) wr) := by
        have h := HRUN.out
        rw [List.drop_of_length_le (by rw [← NK.out]; exact Nat.le_refl _)] at h
        rw [← h]
        exact ⟨rfl, hls⟩
      clear hls hlt
      go_wp2
      go_end0
      exact FIN.out
end Go.Proofs.YtpamiglinmfgkaaDoor
