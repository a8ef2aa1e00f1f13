/- What replay's reader does with a record: contract of the closure. -/
import Derived.Test.YtbdgldlblkflpaaGreatZMtTakeS
import Derived.Test.YtbdgldlblkflpaaGreatMF
import Derived.Test.YtbdgldlblkflpaaGreatZPkRead8
namespace Go.Proofs.YtbdgldlblkflpaaGreat
open Go.RowKit
set_option maxRecDepth 100000
def preS (r : Option (MS × List Nat)) : Option (MS × List Nat) := match r with
  | some (S', m) => if pOk S' then some (S', m) else none
  | none => none
def preC (S : MS) (r : Option (MC × List Nat)) : Option (MS × List Nat) := match r with
  | some (c, m) => if doE S c = 0 then some (doS S c, m) else none
  | none => none
/-- What a record makes of a state, and what is left of it. -/
def pre1 (S : MS) (b : List Nat) : Option (MS × List Nat) := (pU 1 b).bind fun a => if a.1 = 7 then preS (pS a.2) else preC S (pC a.1 a.2)
theorem pre1_some {S S' : MS} {b m : List Nat} (h : pre1 S b = some (S', m)) : rep1 S b = if m = [] then some S' else none := by
  unfold pre1 at h
  unfold rep1
  obtain ⟨⟨k, l⟩, hk, h⟩ := bind_some' h
  rw [hk]
  simp only [Option.bind_some]
  simp only at h
  by_cases h7 : k = 7
  · rw [if_pos h7] at h ⊢
    cases hp : pS l with
    | none => rw [hp] at h; cases h
    | some r =>
      obtain ⟨T, m'⟩ := r
      rw [hp] at h
      unfold preS at h
      simp only at h
      by_cases ho : pOk T
      · rw [if_pos ho] at h
        simp at h
        obtain ⟨rfl, rfl⟩ := h
        cases m' with
        | nil => show (if pOk T then some T else none) = _; rw [if_pos ho, if_pos rfl]
        | cons x m' => rw [if_neg (by simp)]; rfl
      · rw [if_neg ho] at h; cases h
  · rw [if_neg h7] at h ⊢
    cases hp : pC k l with
    | none => rw [hp] at h; cases h
    | some r =>
      obtain ⟨c, m'⟩ := r
      rw [hp] at h
      unfold preC at h
      simp only at h
      by_cases ho : doE S c = 0
      · rw [if_pos ho] at h
        simp at h
        obtain ⟨rfl, rfl⟩ := h
        cases m' with
        | nil => show (if doE S c = 0 then some (doS S c) else none) = _; rw [if_pos ho, if_pos rfl]
        | cons x m' => rw [if_neg (by simp)]; rfl
      · rw [if_neg ho] at h; cases h
theorem pre1_none {S : MS} {b : List Nat} (h : pre1 S b = none) : rep1 S b = none := by
  unfold pre1 at h
  unfold rep1
  cases hk : pU 1 b with
  | none => rfl
  | some a =>
    obtain ⟨k, l⟩ := a
    rw [hk] at h
    simp only [Option.bind_some] at h ⊢
    by_cases h7 : k = 7
    · rw [if_pos h7] at h ⊢
      cases hp : pS l with
      | none => rfl
      | some r =>
        obtain ⟨T, m'⟩ := r
        rw [hp] at h
        unfold preS at h
        simp only at h
        by_cases ho : pOk T
        · rw [if_pos ho] at h; cases h
        · cases m' with
          | nil => show (if pOk T then some T else none) = _; rw [if_neg ho]
          | cons x m' => rfl
    · rw [if_neg h7] at h ⊢
      cases hp : pC k l with
      | none => rfl
      | some r =>
        obtain ⟨c, m'⟩ := r
        rw [hp] at h
        unfold preC at h
        simp only at h
        by_cases ho : doE S c = 0
        · rw [if_pos ho] at h; cases h
        · cases m' with
          | nil => show (if doE S c = 0 then some (doS S c) else none) = _; rw [if_neg ho]
          | cons x m' => rfl
/-- What the closure leaves. -/
def ByEnd (w : World) (B : Nat) (F : List Nat) (p tp bp rb cb db : Nat) (S : MS) (b : List Nat) (e : Ending) (w' : World) : Prop :=
  (∃ S' m tq bq, pre1 S b = some (S', m) ∧ e = .returned (.tuple #[]) ∧ Ms w' B F p tq bq S' ∧ Rdr w' rb cb db m ∧ Frm [rb, p, tp, bp] w w') ∨
  (pre1 S b = none ∧ ∃ c : Nat, c ≠ 0 ∧ e = .panicked [{ v := .iface 217 (.pointer (some ⟨cb, 0, none⟩)), recovered := false }] ∧ Whole w' cb 219 #[.bool false, .int .i64 (c : Nat)] ∧ Frm [rb, cb, p, tp, bp] w w')

set_option maxHeartbeats 16000000 in
theorem by_any {w : World} {B p tp bp rb cb db x : Nat} {F b : List Nat} {S : MS} (h : Ms w B (rb :: cb :: db :: x :: F) p tp bp S) (hM : MOk S) (hr : Rdr w rb cb db b) (hdb : db < w.heap.size) (hx : Whole w x 150 #[.pointer (some ⟨p, 0, none⟩)])
    (hF : ∀ y ∈ F, y < w.heap.size) (hp : p ∉ rb :: cb :: db :: x :: F) (hB : B ≤ w.heap.size) (hlen : b.length ≤ 4096) :
    Calls Tryz.prog 97 #[.pointer (some ⟨rb, 0, none⟩), .pointer (some ⟨x, 0, none⟩)] w (ByEnd w B (rb :: cb :: db :: x :: F) p tp bp rb cb db S b) := by
  have h8 := hr.h8
  have hlt := hr.lt
  obtain ⟨G, hG⟩ : ∃ G, G = rb :: cb :: db :: x :: F := ⟨_, rfl⟩
  have HGF : Hid (∀ y ∈ G, y < w.heap.size) := Lib.hid (by rw [hG]; intro y hy; simp at hy; rcases hy with rfl | rfl | rfl | rfl | hy; exact hlt.1; exact hlt.2; exact hdb; exact hx.lt; exact hF y hy)
  have HIN : Hid (rb ∈ G ∧ cb ∈ G ∧ db ∈ G ∧ x ∈ G) := Lib.hid (by rw [hG]; simp)
  rw [← hG] at h hp ⊢
  clear hG
  have hxr : x ≠ rb ∧ x ≠ cb := by
    obtain ⟨a, cap, h1, h2, _⟩ := hr
    exact ⟨hx.ne h1 (by decide), hx.ne h2 (by decide)⟩
  have HH := Lib.hid h
  have HM := Lib.hid hM
  have HP := Lib.hid hp
  have HXR := Lib.hid hxr
  have HX := Lib.hid hx
  have H8 := Lib.hid h8
  have HN1 := Lib.hid (tk_u8 hr hdb)
  have HDB := Lib.hid hdb
  have HBW := Lib.hid hB
  have HLEN := Lib.hid hlen
  obtain ⟨Q, hQ⟩ : ∃ Q, Q = ByEnd w B G p tp bp rb cb db S b := ⟨_, rfl⟩
  rw [← hQ]
  have ER : Hid (∀ (z : World) (e : Ending) (w' : World) (c : Nat), c ≠ 0 → Frm [rb, p, tp, bp] w z → pre1 S b = none → Thrown z rb cb c e w' → Q e w') := Lib.hid fun z e w' c hc hz hpn ht => by
    rw [hQ]
    refine .inr ⟨hpn, c, hc, ht.1, ht.2.1, hz.trans ht.2.2 (fun y hy => by simp at hy; simp; omega) (fun y hy => .inl (by simp at hy; simp; omega))⟩
  have HQ := Lib.hid hQ
  clear h hM hr hdb hx hF hp hB hlen h8 hlt hxr hQ
  go_enter Tryz.func97, Tryz.ntmps97
  go_wp2_with fail
  (with_reducible refine HN1.out.mono ?_)
  rintro e w1 (⟨k, l1, hp1, hk, rfl, hr1, hf1⟩ | ⟨hp1, ht⟩)
  case inr =>
    have hb := ER.out _ _ _ 4 (by decide) (Frm.refl _ _) (by unfold pre1; rw [hp1]; rfl) ht
    obtain ⟨rfl, _⟩ := ht
    exact ⟨rfl, hb⟩
  have HF1 : Hid (Frm [rb] w w1) := Lib.hid hf1
  have HP1 := Lib.hid hp1
  have HK : Hid (k < 256) := Lib.hid (by simpa using hk)
  have HR1 := Lib.hid hr1
  have HDB1 := Lib.hid (show db < w1.heap.size from Nat.lt_of_lt_of_le HDB.out hf1.size)
  clear hr1 hf1 hp1 HN1 hk
  have hsz1 := HF1.out.size
  have HG1 : Hid (∀ y ∈ p :: G, y < w1.heap.size) := Lib.hid fun y hy => by
    rcases List.mem_cons.1 hy with rfl | hy
    · have := HH.out.st.lt; omega
    · have := HGF.out y hy; omega
  have HFR : Hid (∀ y, Frm [rb] w1 y → Frm [rb] w y) := Lib.hid fun y hy => HF1.out.trans hy (fun x hx => hx) (fun x hx => .inl hx)
  have HMS : Hid (∀ y, Frm [rb] w1 y → Ms y B G p tp bp S) := Lib.hid fun y hy => HH.out.keep (HFR.out y hy) HP.out (fun z hz => .inl (by simp at hz; subst hz; exact HIN.out.1)) (fun z hz => .inl hz)
  have X0 : ∀ y, Frm [rb] w1 y → y.cell? ⟨x, 0, none⟩ = some (.pointer (some ⟨p, 0, none⟩)) := fun y hy => ((HFR.out y hy).whole HX.out (by simpa using HXR.out.1)).cell 0
  have s0 : Frm [rb] w1 w1.drew := (Frm.refl _ _).drew
  clear hsz1
  by_cases h7 : k = 7
  · have d7 : ((k : Int) == 7) = true := by rw [h7]; rfl
    have NOK : Hid ((∀ S' m, pS l1 = some (S', m) → ¬ pOk S') → pre1 S b = none) := Lib.hid fun hno => by
      unfold pre1
      rw [HP1.out]
      simp only [Option.bind_some]
      rw [if_pos h7]
      cases hps : pS l1 with
      | none => rfl
      | some r => show (if pOk r.1 then some (r.1, r.2) else none) = none; rw [if_neg (hno r.1 r.2 hps)]
    have OK : Hid (∀ S' m, pS l1 = some (S', m) → pOk S' → pre1 S b = some (S', m)) := Lib.hid fun S' m hps hok => by
      unfold pre1
      rw [HP1.out]
      simp only [Option.bind_some]
      rw [if_pos h7, hps]
      show (if pOk S' then some (S', m) else none) = _
      rw [if_pos hok]
    have HTS := Lib.hid (takeState_any (p :: G) (HR1.out.keep (Frm.refl [] w1).drew (by simp) (by simp) (by simp)) (show db < w1.drew.heap.size from HDB1.out) (fun y hy => show y < w1.drew.heap.size from HG1.out y hy))
    have P0 : ∀ y, Frm [rb] w1 y → y.cell? ⟨p, 0, none⟩ = some (.int .u64 (S.now : Nat)) := fun y hy => (HMS.out y hy).st.cell 0
    have P1 : ∀ y, Frm [rb] w1 y → y.cell? ⟨p, 1, none⟩ = some (.pointer (some ⟨tp, 0, none⟩)) := fun y hy => (HMS.out y hy).st.cell 1
    have P2 : ∀ y, Frm [rb] w1 y → y.cell? ⟨p, 2, none⟩ = some (.pointer (some ⟨bp, 0, none⟩)) := fun y hy => (HMS.out y hy).st.cell 2
    have K0 : ∀ y, Frm [rb] w1 y → y.frozen? ⟨p, 0, none⟩ = false := fun y hy => (HMS.out y hy).st.free 0
    have K1 : ∀ y, Frm [rb] w1 y → y.frozen? ⟨p, 1, none⟩ = false := fun y hy => (HMS.out y hy).st.free 1
    have K2 : ∀ y, Frm [rb] w1 y → y.frozen? ⟨p, 2, none⟩ = false := fun y hy => (HMS.out y hy).st.free 2
    go_wp2
    go_region_law (first
      | (go_simp; go_at_call 99; (with_reducible refine HTS.out.mono ?_); rintro e w2 (⟨S', m, tq, bq, hps, hok, rfl, hkd, hr2, hf2⟩ | ⟨hno, c, hc, ht⟩); rotate_left 1; (have hb := ER.out w1.drew _ _ c hc ((HFR.out _ s0).weak (fun y hy => .inl (by simp at hy; simp [hy]))) (NOK.out hno) ht; obtain ⟨rfl, _⟩ := ht; exact ⟨rfl, hb⟩); have s2 : Frm [rb] w1 w2 := s0.trans hf2 (fun x hx => hx) (fun x hx => .inl hx)))
    all_goals
      obtain ⟨wz, hz⟩ : ∃ wz, wz = ((w2.setCell ⟨p, 0, none⟩ (.int .u64 (S'.now : Nat))).setCell ⟨p, 1, none⟩ (.pointer (some ⟨tq, 0, none⟩))).setCell ⟨p, 2, none⟩ (.pointer (some ⟨bq, 0, none⟩)) := ⟨_, rfl⟩
      have hWz : Whole wz p 93 #[.int .u64 (S'.now : Nat), .pointer (some ⟨tq, 0, none⟩), .pointer (some ⟨bq, 0, none⟩)] := by rw [hz]; exact (((HMS.out w2 s2).st.put 0 _).put 1 _).put 2 _
      have hfz : Frm [p] w2 wz := by rw [hz]; exact (((Frm.refl _ _).setCell (.inl (by simp)) _).setCell (.inl (by simp)) _).setCell (.inl (by simp)) _
      have hpG : p ≠ rb ∧ p ≠ cb ∧ p ≠ db := ⟨fun h => HP.out (h ▸ HIN.out.1), fun h => HP.out (h ▸ HIN.out.2.1), fun h => HP.out (h ▸ HIN.out.2.2.1)⟩
      have HEND : Hid (Q (.returned (.tuple #[])) wz) := Lib.hid (by
        rw [HQ.out]
        refine .inl ⟨S', m, tq, bq, OK.out _ _ hps hok, rfl, ⟨hWz, (hkd.keep hfz (fun y hy => .inl (by simp at hy; simp [hy])) (fun y hy => .inl hy)).low (Nat.le_trans HBW.out HF1.out.size)⟩, hr2.keep hfz (by simp; omega) (by simp; omega) (by simp; omega), ((HFR.out _ s2).weak (U := [rb, p, tp, bp]) (fun y hy => .inl (by simp at hy; simp [hy]))).trans hfz (fun y hy => hy) (fun y hy => .inl (by simp at hy; simp [hy]))⟩)
      rw [← hz]
      clear hWz hfz hz P0 P1 P2 K0 K1 K2 X0 hkd hr2 hf2
      go_wp2
      go_end0
      exact HEND.out
  · have d7 : ((k : Int) == 7) = false := by rw [beq_eq_false_iff_ne]; omega
    have PC : Hid (pre1 S b = preC S (pC k l1)) := Lib.hid (by
      unfold pre1
      rw [HP1.out]
      simp only [Option.bind_some]
      rw [if_neg h7])
    have HL1 : Hid (l1.length ≤ 4096) := Lib.hid (by have h1 := (pU_left HP1.out).1; have h2 := HLEN.out; rw [h1, List.length_drop]; omega)
    have HTC := Lib.hid (takeCommand_any k (HR1.out.keep (Frm.refl [] w1).drew (by simp) (by simp) (by simp)) (show db < w1.drew.heap.size from HDB1.out))
    go_wp2
    go_region_law (first
      | (go_simp; go_at_call 100; (with_reducible refine HTC.out.mono ?_); rintro e w2 (⟨c, m, a, cap, hpc, rfl, hb, hnil, hnew, hr2, hf2⟩ | ⟨hpc, ht⟩); rotate_left 1; (have hb := ER.out w1.drew _ _ 4 (by decide) ((HFR.out _ s0).weak (fun y hy => .inl (by simp at hy; simp [hy]))) (by rw [PC.out, hpc]; rfl) ht; obtain ⟨rfl, _⟩ := ht; exact ⟨rfl, hb⟩); have s2 : Frm [rb] w1 w2 := s0.trans hf2 (fun x hx => hx) (fun x hx => .inl hx); have HC := Lib.hid (pC_fit hpc HR1.out.h8 HK.out HL1.out); have HDO := Lib.hid (mdo_any c a cap (HMS.out w2 s2) HM.out HC.out.1 (fun y hy => Nat.lt_of_lt_of_le (HG1.out y (by simp [hy])) s2.size) HP.out hb hnil))
      | (go_simp; go_at_call 57; (refine HDO.out.mono ?_); rintro e w3 ⟨ga, gc, rfl, hga, hgn, hms, hf3⟩))
    all_goals
      have hG3 : Frm [rb, p, tp, bp] w w3 := ((HFR.out _ s2).weak (U := [rb, p, tp, bp]) (fun y hy => .inl (by simp at hy; simp [hy]))).trans hf3 (fun y hy => hy) (fun y hy => .inl (by simp at hy; simp; omega))
      have hM2 := HMS.out w2 s2
      have hpG : p ≠ rb ∧ p ≠ cb ∧ p ≠ db := ⟨fun h => HP.out (h ▸ HIN.out.1), fun h => HP.out (h ▸ HIN.out.2.1), fun h => HP.out (h ▸ HIN.out.2.2.1)⟩
      have htG : ∀ y ∈ p :: G, y ≠ tp ∧ y ≠ bp := fun y hy => ⟨fun h => hM2.d.tout.2 (h ▸ hy), fun h => hM2.d.out (h ▸ hy)⟩
      have hr3 : Rdr w3 rb cb db m := hr2.keep hf3 (by have := htG rb (by simp [HIN.out.1]); simp; omega) (by have := htG cb (by simp [HIN.out.2.1]); simp; omega) (by have := htG db (by simp [HIN.out.2.2.1]); simp; omega)
      have HR3 := Lib.hid hr3
      have HG3 := Lib.hid hG3
      have HMS3 := Lib.hid hms
      have HPC := Lib.hid hpc
      clear hG3 hM2 hpG htG hr3 hms hga hgn hf3 hr2 hf2 hb hnil hnew X0
      obtain ⟨ec, hec⟩ : ∃ ec, doE S c = ec := ⟨_, rfl⟩
      rw [hec]
      go_wp2_with fail
      by_cases h0 : ec = 0
      · subst h0
        have HEND : Hid (Q (.returned (.tuple #[])) w3) := Lib.hid (by
          rw [HQ.out]
          refine .inl ⟨doS S c, m, tp, bp, ?_, rfl, HMS3.out, HR3.out, HG3.out⟩
          rw [PC.out, HPC.out]
          show (if doE S c = 0 then some (doS S c, m) else none) = _
          rw [if_pos hec])
        refine (fail0_any (rb := rb)).mono ?_
        rintro e w4 ⟨rfl, rfl⟩
        go_wp2
        go_end0
        exact HEND.out
      · refine (fail1_any ec HR3.out h0).mono ?_
        rintro e w4 ht
        have hb := ER.out _ _ _ ec h0 HG3.out (by
          rw [PC.out, HPC.out]
          show (if doE S c = 0 then some (doS S c, m) else none) = _
          rw [if_neg (by rw [hec]; exact h0)]) ht
        obtain ⟨rfl, _⟩ := ht
        exact ⟨rfl, hb⟩
end Go.Proofs.YtbdgldlblkflpaaGreat
