/- Contracts and mathematics that the proofs of this seat stand on: ShRep, ShSay, ShTold, ShWrite, ShOpen, ShPut, BEq, ShCalls, ShFence, ShAddC, ShNode, ShFit, ShAwake, SoIns, SoMed, SoRw, SoScan, SoPartEq. -/
import Derived.Test.YtamcandcfainfaaGreatMB
import Derived.Deep.RegionHeld
import Derived.Test.YtamcandcfainfaaGreatMA
import Derived.BigQuiet
import Derived.Deep.RegionHeld3
import Derived.Lib.SlBytesConst
import Derived.Sort.Row
import Derived.Sort.Statements
import Derived.Sort.Lot0
import Derived.WalkKit
import Derived.BigGuard
import Derived.BigCall
import Derived.CellFam
import Derived.Deep.Draws
import Derived.Deep.QuietTactic
import Derived.Sort.LotC
import Derived.Deep.Cut
import Derived.Deep.CutRange
import Derived.Deep.LoopGhost
/- Contract of the shelf's replay: what a record says comes to be. Written by wip/mk-shrep.py. -/
namespace Go.Proofs.YtamcandcfainfaaGreat
open Go.RowKit
set_option maxRecDepth 100000

theorem shm_put {w w' : World} {B mb n i : Nat} {F : List Nat} {S : Nd9} {f : Nat → Option Value} {g : Nat → Value} {m : Value} {l : Lg} (_hi : i < N64)
    (h1 : ∀ j, j < N64 → ((f j = none ∧ g j = .map none ∧ S j = {}) ∨ f j = some (stoV (g j) (S j)))) (h2 : ∀ j, j < N64 → j ≠ i → StoV w F n (g j) (S j))
    (h3 : ∀ i j b, i < N64 → j < N64 → g i = .map (some b) → g j = .map (some b) → i = j) (h4 : ∀ i b, i < N64 → g i = .map (some b) → b ≠ mb ∧ B ≤ b) (hout : mb ∉ F) (hbase : B ≤ mb)
    (hst : StoV w F (n + 1) m l) (hown : ∀ b, m = .map (some b) → b ≠ mb ∧ B ≤ b ∧ ∀ j, j < N64 → j ≠ i → g j ≠ .map (some b))
    (hm0 : ∃ f0, MapV Tryz.prog K64 w mb n f0) (hm : MapV Tryz.prog K64 w' mb (n + 1) (updV f i (stoV m l))) (hf : Frm [mb] w w') : ShM w' B F mb (n + 1) (updS S i l) := by
  obtain ⟨f0, hm0⟩ := hm0
  have hk : ∀ {m : Value} {l : Lg} {n : Nat}, StoV w F n m l → m ≠ .map (some mb) → StoV w' F n m l := fun h hne => h.other hf hm0.nocell hne
  refine ⟨⟨updV f i (stoV m l), fun j => if j = i then m else g j, hm, fun j hj => ?_, fun j hj => ?_, fun a b c ha hb hac hbc => ?_, fun a c ha hac => ?_⟩, hout, hbase⟩
  · by_cases h : j = i
    · right; simp [updV, updS, h]
    · simp only [updV, updS, if_neg h]; exact h1 j hj
  · simp only [updS]
    by_cases h : j = i
    · rw [if_pos h, if_pos h]
      exact hk hst (fun he => (hown mb he).1 rfl)
    · rw [if_neg h, if_neg h]
      exact (hk (h2 j hj h) (fun he => (h4 j mb hj he).1 rfl)).mono (by omega)
  · dsimp only at hac hbc
    by_cases h5 : a = i
    · by_cases h6 : b = i
      · rw [h5, h6]
      · rw [if_pos h5] at hac; rw [if_neg h6] at hbc
        exact absurd hbc ((hown c hac).2.2 b hb h6)
    · by_cases h6 : b = i
      · rw [if_neg h5] at hac; rw [if_pos h6] at hbc
        exact absurd hac ((hown c hbc).2.2 a ha h5)
      · rw [if_neg h5] at hac; rw [if_neg h6] at hbc
        exact h3 a b c ha hb hac hbc
  · dsimp only at hac
    by_cases h5 : a = i
    · rw [if_pos h5] at hac; exact ⟨(hown c hac).1, (hown c hac).2.1⟩
    · rw [if_neg h5] at hac; exact h4 a c ha hac

/-- What add leaves, among all stocks. -/
theorem add_done {w w' : World} {B g0 mb n i k s : Nat} {F d : List Nat} {S : Nd9} {f : Nat → Option Value} {g : Nat → Value} {e : Ending} (hmv : MapV Tryz.prog K64 w mb n f) (hst : ∀ j, j < N64 → StoV w (g0 :: F) n (g j) (S j))
    (hinj : ∀ i j b, i < N64 → j < N64 → g i = .map (some b) → g j = .map (some b) → i = j) (hfar : ∀ i b, i < N64 → g i = .map (some b) → b ≠ mb ∧ B ≤ b) (hi : i < N64) (hbase : B ≤ mb)
    (h : AddEnd w (g0 :: F) (n + 1) g0 (g i) (addL (S i) k s d) e w') :
    ∃ m' T, e = .returned (.tuple #[]) ∧ Whole w' g0 99 #[m', .int .u64 ((addL (S i) k s d).sure : Nat), .bool (addL (S i) k s d).fen, .bool (addL (S i) k s d).gone] ∧ Frm (g0 :: T) w w' ∧ (∀ x ∈ T, g i = .map (some x)) ∧
      (∀ j, j < N64 → j ≠ i → StoV w' F n (g j) (S j)) ∧ StoV w' F (n + 1) m' (addL (S i) k s d) ∧ (∀ c, m' = .map (some c) → c ≠ mb ∧ B ≤ c ∧ ∀ j, j < N64 → j ≠ i → g j ≠ .map (some c)) := by
  obtain ⟨m', he, hw, hs, h2⟩ := h
  have hless : ∀ {m : Value} {l : Lg} {n : Nat}, StoV w' (g0 :: F) n m l → StoV w' F n m l := fun h => h.keep (T := []) (Frm.refl _ _) (by simp) (fun x hx => .inl (by simp [hx]))
  rcases h2 with ⟨rfl, b, hb, hf⟩ | ⟨b, rfl, hb, hf⟩
  · have hnc : ∀ i, w.cell? ⟨b, i, none⟩ = none := by
      obtain ⟨f', hm, _⟩ := (hst i hi).map
      rcases hm with ⟨h3, _⟩ | ⟨c, h3, hm⟩
      · rw [hb] at h3; cases h3
      · rw [hb] at h3; cases h3; exact hm.nocell
    refine ⟨g i, [b], he, hw, hf, fun x hx => by simp at hx; rw [hx]; exact hb, fun j hj hji => hless ((hst j hj).keepC hf (fun x hx => ?_)), hless hs, fun c hc => ?_⟩
    · rcases List.mem_cons.1 hx with rfl | hx
      · exact .inl (by simp)
      · have : x = b := by simpa using hx
        subst this
        exact .inr (.inr ⟨hnc, fun h => hji (hinj j i x hj hi h hb)⟩)
    · exact ⟨(hfar i c hi hc).1, (hfar i c hi hc).2, fun j hj hji h => hji (hinj j i c hj hi h hc)⟩
  · refine ⟨_, [], he, hw, hf, by simp, fun j hj hji => hless ((hst j hj).keepC hf (fun x hx => .inl (by simp at hx; simp [hx]))), hless hs, fun c hc => ?_⟩
    cases hc
    have hlt := hmv.lt
    refine ⟨by omega, by omega, fun j hj hji h => ?_⟩
    obtain ⟨f', hm, _⟩ := (hst j hj).map
    rcases hm with ⟨h3, _⟩ | ⟨c, h3, hm⟩
    · rw [h] at h3; cases h3
    · rw [h] at h3; cases h3
      have := hm.lt; omega

/-- What replay leaves. -/
def ReplayEnd (w : World) (U B : Nat) (F : List Nat) (mb n rb cb db : Nat) (S : Nd9) (b : List Nat) (e : Ending) (w' : World) : Prop :=
  (∃ i l m T, shPre S b = some (i, l, m) ∧ i < N64 ∧ e = .returned (.tuple #[]) ∧ ShM w' B F mb (n + 1) (updS S i l) ∧ Rdr w' rb cb db m ∧ Frm T w w' ∧ ∀ x ∈ T, x = rb ∨ (x ∉ F ∧ B ≤ x ∧ x < U)) ∨
  (shPre S b = none ∧ ∃ c : Nat, c ≠ 0 ∧ e = .panicked [{ v := .iface 131 (.pointer (some ⟨cb, 0, none⟩)), recovered := false }] ∧ Whole w' cb 133 #[.bool false, .int .i64 (c : Nat)] ∧ Frm [rb, cb] w w')

set_option maxHeartbeats 16000000 in
theorem replay_any {w0 w : World} {B mb n p rb cb db : Nat} {F b : List Nat} {S : Nd9} (h0 : ShM w0 B F mb n S) (hf0 : Frm [] w0 w) (hr : Rdr w rb cb db b) (hdb : db < w.heap.size) (hp : w.cell? ⟨p, 0, none⟩ = some (.map (some mb))) (hF : ∀ y ∈ F, y < w.heap.size) (hin : rb ∈ F ∧ cb ∈ F ∧ db ∈ F ∧ p ∈ F) (hpr : p ≠ rb ∧ p ≠ cb) (hn : n < 20000000) :
    Calls Tryz.prog 48 #[.pointer (some ⟨p, 0, none⟩), .pointer (some ⟨rb, 0, none⟩)] w (ReplayEnd w w0.heap.size B F mb n rb cb db S b) := by
  have h : ShM w B F mb n S := h0.keep hf0 (by simp) (fun x hx => .inl hx)
  have HK8 := Lib.hid (tku8 hr hdb)
  obtain ⟨Q, hQ⟩ : ∃ Q, Q = ReplayEnd w w0.heap.size B F mb n rb cb db S b := ⟨_, rfl⟩
  rw [← hQ]
  have ER : Hid (∀ (z : World) (e : Ending) (w' : World) (c : Nat), c ≠ 0 → Frm [rb] w z → shPre S b = none → Thrown z rb cb c e w' → Q e w') := Lib.hid fun z e w' c hc hz hpn ht => by
    rw [hQ]
    exact .inr ⟨hpn, c, hc, ht.1, ht.2.1, hz.trans ht.2.2 (fun y hy => by simp at hy; simp [hy]) (fun y hy => .inl hy)⟩
  have HQ := Lib.hid hQ
  have H := Lib.hid h
  have H0 := Lib.hid h0
  have HF00 := Lib.hid hf0
  have HF := Lib.hid hF
  have HIN := Lib.hid hin
  have HPR := Lib.hid hpr
  have HP := Lib.hid hp
  have HDB := Lib.hid hdb
  have hplt := block_lt_of_cell hp
  clear h h0 hf0 hr hdb hp hF hin hpr hQ
  go_enter Tryz.func48, Tryz.ntmps48
  go_wp2_with fail
  (with_reducible refine HK8.out.mono ?_)
  rintro e w1 (⟨k, b1, hp1, hk, rfl, hr1, hf1⟩ | ⟨hp1, ht⟩)
  case inr =>
    have hb := ER.out _ _ _ 4 (by decide) (Frm.refl _ _) (by unfold shPre; rw [hp1]; rfl) ht
    obtain ⟨rfl, _⟩ := ht
    exact ⟨rfl, hb⟩
  have HF1 := Lib.hid hf1
  have HP1 := Lib.hid hp1
  have HK : Hid (k < 256) := Lib.hid (by simpa using hk)
  have HK64 := Lib.hid (tku64 hr1 (Nat.lt_of_lt_of_le HDB.out hf1.size))
  clear hr1 hf1 hp1 HK8 hk
  go_wp2_with fail
  (with_reducible refine HK64.out.mono ?_)
  rintro e w2 (⟨i, b2, hp2, hi, rfl, hr2, hf2⟩ | ⟨hp2, ht⟩)
  case inr =>
    have hb := ER.out _ _ _ 4 (by decide) HF1.out (by unfold shPre; rw [HP1.out]; simp only [Option.bind_some]; rw [hp2]; rfl) ht
    obtain ⟨rfl, _⟩ := ht
    exact ⟨rfl, hb⟩
  have hi64 : i < N64 := by simpa using hi
  have HI := Lib.hid hi64
  have HF2 : Hid (Frm [rb] w w2) := Lib.hid (HF1.out.trans hf2 (fun x hx => hx) (fun x hx => .inl hx))
  have HR2 := Lib.hid hr2
  have HPRE : Hid (shPre S b = if (S i).gone = true then none else (sayL (S i) k b2).map fun r => (i, r.1, r.2)) := Lib.hid (by
    unfold shPre; rw [HP1.out]; simp only [Option.bind_some]; rw [hp2]; rfl)
  have hpF : p ∉ [rb] := by simpa using HPR.out.1
  have hx2 : w2.cell? ⟨p, 0, none⟩ = some (.map (some mb)) := (HF2.out.cell (p := ⟨p, 0, none⟩) hplt hpF).trans HP.out
  -- the ledger's stock
  obtain ⟨f, g, hmvA, hfg, hstA, hinj, hfar⟩ := H0.out.map
  have hmv0 : MapV Tryz.prog K64 w mb n f := hmvA.keep HF00.out (by simp)
  have hst0 : ∀ j, j < N64 → StoV w F n (g j) (S j) := fun j hj => (hstA j hj).keep HF00.out (by simp) (fun x hx => .inl hx)
  have hmv : MapV Tryz.prog K64 w2 mb n f := hmv0.keep HF2.out (fun hm => by simp at hm; exact H.out.out (hm ▸ HIN.out.1))
  have hst : ∀ j, j < N64 → StoV w2 F n (g j) (S j) := fun j hj => (hst0 j hj).keep HF2.out (fun x hx => .inl (by simp at hx; rw [hx]; exact HIN.out.1)) (fun x hx => .inl hx)
  have HOLD : Hid (∀ b, g i = .map (some b) → b ∉ F ∧ B ≤ b ∧ b < w0.heap.size ∧ b ≠ mb) := Lib.hid fun b hb => by
    refine ⟨(hst0 i hi64).far b hb, (hfar i b hi64 hb).2, ?_, (hfar i b hi64 hb).1⟩
    obtain ⟨f', hm, _⟩ := (hstA i hi64).map
    rcases hm with ⟨h3, _⟩ | ⟨c, h3, hm⟩
    · rw [hb] at h3; cases h3
    · rw [hb] at h3; cases h3; exact hm.lt
  obtain ⟨l, hl⟩ : ∃ l, l = S i := ⟨_, rfl⟩
  obtain ⟨o, hm⟩ : ∃ o, Value.map o = g i := by
    obtain ⟨f', hm, _⟩ := (hst i hi64).map
    rcases hm with ⟨h3, _⟩ | ⟨c, h3, hm⟩
    · exact ⟨none, h3.symm⟩
    · exact ⟨some c, h3.symm⟩
  have hlook : (f i).getD (stoV (.map none) {}) = stoV (.map o) l := by
    rcases hfg i hi64 with ⟨h1, h2, h3⟩ | h1
    · rw [h1, hm, hl, h2, h3]; rfl
    · rw [h1, hm, hl]; rfl
  have hsti := hst i hi64
  rw [← hl] at HPRE
  rw [← hl, ← hm] at hsti
  obtain ⟨w3, hw3⟩ : ∃ w3, w3 = w2.alloc (.cells #[.map o, .int .u64 (l.sure : Nat), .bool l.fen, .bool l.gone] 99) := ⟨_, rfl⟩
  obtain ⟨g0, hg0⟩ : ∃ g0, g0 = w2.heap.size := ⟨_, rfl⟩
  have hW3 := Whole.made w2 99 #[.map o, .int .u64 (l.sure : Nat), .bool l.fen, .bool l.gone]
  rw [← hw3, ← hg0] at hW3
  have hf3 : Frm [] w2 w3 := by rw [hw3]; exact (Frm.refl _ _).alloc _
  have HF3 : Hid (Frm [rb] w w3) := Lib.hid (HF2.out.trans hf3 (fun x hx => hx) (by simp))
  have hF2 : ∀ y ∈ F, y < w2.heap.size := fun y hy => Nat.lt_of_lt_of_le (HF.out y hy) HF2.out.size
  have hg0F : g0 ∉ F := fun hm => by have := hF2 g0 hm; omega
  have HG0F := Lib.hid hg0F
  -- all of it at w3, with g0 among what may be written
  have HMV3 : Hid (MapV Tryz.prog K64 w3 mb n f) := Lib.hid (hmv.keep hf3 (by simp))
  have HST3 : Hid (∀ j, j < N64 → StoV w3 (g0 :: F) n (g j) (S j)) := Lib.hid fun j hj => (hst j hj).keep hf3 (by simp) (fun x hx => by rcases List.mem_cons.1 hx with rfl | hx; exact .inr (by omega); exact .inl hx)
  have hmlt := hmv.lt
  have HFG := Lib.hid hfg
  have HINJ := Lib.hid hinj
  have HFAR := Lib.hid hfar
  have HOUT := Lib.hid H.out.out
  have HBASE := Lib.hid H.out.base
  have HM := Lib.hid hm
  have HL := Lib.hid hl
  have HW3 := Lib.hid hW3
  have HR3 := Lib.hid (hr2.keep hf3 (by simp) (by simp) (by simp))
  have HNE : Hid (g0 ≠ mb ∧ g0 ≠ p ∧ g0 ≠ rb ∧ g0 ≠ cb ∧ g0 ≠ db ∧ p ≠ mb ∧ w2.heap.size ≤ g0 ∧ mb < w0.heap.size) := Lib.hid ⟨by omega, fun h => hg0F (h ▸ HIN.out.2.2.2), fun h => hg0F (h ▸ HIN.out.1), fun h => hg0F (h ▸ HIN.out.2.1), fun h => hg0F (h ▸ HIN.out.2.2.1), fun h => H.out.out (h ▸ HIN.out.2.2.2), by omega, H0.out.lt⟩
  have HX3 : Hid (w3.cell? ⟨p, 0, none⟩ = some (.map (some mb))) := Lib.hid ((hf3.cell (p := ⟨p, 0, none⟩) (block_lt_of_cell hx2) (by simp)).trans hx2)
  have HMV2 := Lib.hid hmv
  have HST2 := Lib.hid hst
  have HW := Lib.hid hw3
  have HG := Lib.hid hg0
  have HLK := Lib.hid hlook
  have HDB3 : Hid (db < w3.heap.size) := Lib.hid (Nat.lt_of_lt_of_le HDB.out HF3.out.size)
  have HF0L : Hid (∀ y ∈ g0 :: F, y < w3.heap.size) := Lib.hid fun y hy => by
    rcases List.mem_cons.1 hy with rfl | hy
    · exact hW3.lt
    · exact Nat.lt_of_lt_of_le (HF.out y hy) HF3.out.size
  -- how it ends, for a stock (m', l') in block g0 of a world wz
  have FIN : Hid (∀ (wz w' : World) (T b3 : List Nat) (m' : Value) (l' : Lg), sayL l k b2 = some (l', b3) → l.gone = false → Frm T w wz → (∀ x ∈ T, x = rb ∨ (x ∉ F ∧ B ≤ x ∧ x < w0.heap.size)) → Rdr wz rb cb db b3 → MapV Tryz.prog K64 wz mb n f → (∀ j, j < N64 → j ≠ i → StoV wz F n (g j) (S j)) → StoV wz F (n + 1) m' l' → (∀ c, m' = .map (some c) → c ≠ mb ∧ B ≤ c ∧ ∀ j, j < N64 → j ≠ i → g j ≠ .map (some c)) → MapV Tryz.prog K64 w' mb (n + 1) (updV f i (stoV m' l')) → Frm [mb] wz w' → Q (.returned (.tuple #[])) w') := Lib.hid (by
    intro wz w' T b3 m' l' hsay hng hT hTx hrz hmz hoz hsz hown hm' hf'
    rw [HQ.out]
    refine .inl ⟨i, l', b3, mb :: T, by rw [HPRE.out, if_neg (by simp [hng]), hsay]; rfl, HI.out, rfl, shm_put HI.out HFG.out hoz HINJ.out HFAR.out HOUT.out HBASE.out hsz hown ⟨f, hmz⟩ hm' hf', ?_, hT.trans hf' (fun x hx => by simp [hx]) (fun x hx => .inl (by simp at hx; simp [hx])), fun x hx => ?_⟩
    · have h1 := HOUT.out
      exact hrz.keep hf' (fun hm => by simp at hm; exact h1 (hm ▸ HIN.out.1)) (fun hm => by simp at hm; exact h1 (hm ▸ HIN.out.2.1)) (fun hm => by simp at hm; exact h1 (hm ▸ HIN.out.2.2.1))
    · rcases List.mem_cons.1 hx with rfl | hx
      · exact .inr ⟨HOUT.out, HBASE.out, HNE.out.2.2.2.2.2.2.2⟩
      · exact hTx x hx)
  clear hmv hfg hst hinj hfar hl hm hlook hW3 hf3 hF2 hg0F hmlt hmv0 hst0 hmvA hstA hw3 hg0 hr2 hf2 hp2 hi hpF hplt HK64
  have q3 : (w2.alloc (.cells #[.map o, .int .u64 (l.sure : Nat), .bool l.fen, .bool l.gone] 99)).cell? ⟨w2.heap.size, 3, none⟩ = some (.bool l.gone) := (Whole.made w2 _ _).cell 3
  by_cases hgone : l.gone = true
  · have HWt := HW.out
    rw [hgone] at q3 HWt
    have HWT := Lib.hid HWt
    clear HWt
    go_wp2_with (refine wpList_lookV w2 rfl (.tmp 14) (.tmp 15) 71 99 rfl key64 Tryz.underlying71 (zeroSto w2) n f (.inr ⟨mb, rfl, HMV2.out⟩) i HI.out rfl ?_; rw [HLK.out, show stoV (.map o) l = .agg #[.map o, .int .u64 (l.sure : Nat), .bool l.fen, .bool l.gone] from rfl])
    rw [← HWT.out]
    refine (fail1_any 23 HR3.out (by decide)).mono ?_
    rintro e w4 ht
    have hb := ER.out _ _ _ 23 (by decide) HF3.out (by rw [HPRE.out, if_pos hgone]) ht
    obtain ⟨rfl, _⟩ := ht
    exact ⟨rfl, hb⟩
  · have hgone' : l.gone = false := by simpa using hgone
    have HGONE := Lib.hid hgone'
    have HNG := Lib.hid hgone
    have HWt := HW.out
    rw [hgone'] at q3 HWt
    have HWT := Lib.hid HWt
    clear HWt
    have HSAYN : Hid (∀ q, sayL l k b2 = q → shPre S b = q.map fun r => (i, r.1, r.2)) := Lib.hid (by intro q hq; rw [HPRE.out, if_neg HNG.out, hq])
    by_cases hk1 : k = 1
    · subst hk1
      have hd1 : (((1 : Nat) : Int) == 1) = true := rfl
      clear hgone hgone'
      go_wp2_with (refine wpList_lookV w2 rfl (.tmp 14) (.tmp 15) 71 99 rfl key64 Tryz.underlying71 (zeroSto w2) n f (.inr ⟨mb, rfl, HMV2.out⟩) i HI.out rfl ?_; rw [HLK.out, show stoV (.map o) l = .agg #[.map o, .int .u64 (l.sure : Nat), .bool l.fen, .bool l.gone] from rfl])
      rw [← HWT.out]
      (with_reducible refine (tku64 HR3.out HDB3.out).mono ?_)
      rintro e w4 (⟨x1, b3, hq1, hx1, rfl, hr4, hf4⟩ | ⟨hq1, ht⟩)
      case inr =>
        have hb := ER.out _ _ _ 4 (by decide) HF3.out (HSAYN.out none (by unfold sayL; rw [if_pos rfl, hq1]; rfl)) ht
        obtain ⟨rfl, _⟩ := ht
        exact ⟨rfl, hb⟩
      have HQ1 := Lib.hid hq1
      have HX1 : Hid (x1 < N64) := Lib.hid (by simpa using hx1)
      have HF4 : Hid (Frm [rb] w3 w4) := Lib.hid hf4
      have HT64 := Lib.hid (tku64 hr4 (Nat.lt_of_lt_of_le HDB3.out hf4.size))
      clear hq1 hx1 hr4 hf4 q3
      go_wp2_with fail
      (with_reducible refine HT64.out.mono ?_)
      rintro e w5 (⟨x2, b4, hq2, hx2, rfl, hr5, hf5⟩ | ⟨hq2, ht⟩)
      case inr =>
        have hb := ER.out _ _ _ 4 (by decide) (HF3.out.trans HF4.out (fun x hx => hx) (fun x hx => .inl hx)) (HSAYN.out none (by unfold sayL; rw [if_pos rfl, HQ1.out]; simp only [Option.bind_some]; rw [hq2]; rfl)) ht
        obtain ⟨rfl, _⟩ := ht
        exact ⟨rfl, hb⟩
      have HQ2 := Lib.hid hq2
      have HX2 : Hid (x2 < N64) := Lib.hid (by simpa using hx2)
      have HF5 : Hid (Frm [rb] w3 w5) := Lib.hid (HF4.out.trans hf5 (fun x hx => hx) (fun x hx => .inl hx))
      have HTB := Lib.hid (tkbytes9 hr5 (Nat.lt_of_lt_of_le HDB3.out HF5.out.size))
      clear hq2 hx2 hr5 hf5 HT64 HF4
      go_wp2_with fail
      (with_reducible refine HTB.out.mono ?_)
      rintro e w6 (⟨d, b5, da, dn, dc, hq3, hdn, rfl, hdb6, hnl6, hnew6, hr6, hf6⟩ | ⟨hq3, ht⟩)
      case inr =>
        have hb := ER.out _ _ _ 4 (by decide) (HF3.out.trans HF5.out (fun x hx => hx) (fun x hx => .inl hx)) (HSAYN.out none (by unfold sayL; rw [if_pos rfl, HQ1.out]; simp only [Option.bind_some]; rw [HQ2.out]; simp only [Option.bind_some]; rw [hq3]; rfl)) ht
        obtain ⟨rfl, _⟩ := ht
        exact ⟨rfl, hb⟩
      have HSAY : Hid (sayL l 1 b2 = some (addL l x1 x2 d, b5)) := Lib.hid (by unfold sayL; rw [if_pos rfl, HQ1.out]; simp only [Option.bind_some]; rw [HQ2.out]; simp only [Option.bind_some]; rw [hq3]; rfl)
      have HF6 : Hid (Frm [rb] w3 w6) := Lib.hid (HF5.out.trans hf6 (fun x hx => hx) (fun x hx => .inl hx))
      have hrbF : ∀ x ∈ [rb], x ∈ g0 :: F ∨ w3.heap.size ≤ x := fun x hx => .inl (by simp at hx; rw [hx]; simp [HIN.out.1])
      have hst6 : ∀ j, j < N64 → StoV w6 (g0 :: F) n (g j) (S j) := fun j hj => (HST3.out j hj).keep HF6.out hrbF (fun x hx => .inl hx)
      have hg6 := HF6.out.whole HW3.out (by simpa using HNE.out.2.2.1)
      have hmv6 : MapV Tryz.prog K64 w6 mb n f := HMV3.out.keep HF6.out (fun hm => by simp at hm; exact HOUT.out (hm ▸ HIN.out.1))
      have hsti := hst6 i HI.out
      rw [← HL.out, ← HM.out] at hsti
      have HAD := Lib.hid (sadd_any x1 x2 da dn dc d hg6 hsti (by simp) (fun y hy => Nat.lt_of_lt_of_le (HF0L.out y hy) HF6.out.size) HX1.out HX2.out hdb6 hdn.out (fun hne x hx hm => by have h1 := hnew6.out x hx; have h2 := HF0L.out _ hm; have h3 := HF5.out.size; omega) hnl6 hn)
      have HST6 := Lib.hid hst6
      have HMV6 := Lib.hid hmv6
      have HR6 := Lib.hid hr6
      have HX6 : Hid (w6.cell? ⟨p, 0, none⟩ = some (.map (some mb))) := Lib.hid ((HF6.out.cell (p := ⟨p, 0, none⟩) (block_lt_of_cell HX3.out) (by simpa using HPR.out.1)).trans HX3.out)
      rw [HG.out] at HAD
      clear hq3 hdb6 hnl6 hnew6 hr6 hf6 hrbF hst6 hg6 hmv6 hsti HTB HF5 hdn
      go_wp2_with fail
      (with_reducible refine HAD.out.mono ?_)
      rintro e wz had
      rw [← HG.out] at had
      rw [HM.out, HL.out] at had
      obtain ⟨m', T, rfl, hwz, hfz, hTz, hoz, hsz, hown⟩ := add_done HMV6.out HST6.out HINJ.out HFAR.out HI.out HBASE.out had
      rw [← HL.out] at hwz hsz
      obtain ⟨l', hl'⟩ : ∃ l', l' = addL l x1 x2 d := ⟨_, rfl⟩
      rw [← hl'] at hwz hsz
      have hTo : ∀ x ∈ T, x ∉ F ∧ B ≤ x ∧ x < w0.heap.size ∧ x ≠ mb := fun x hx => HOLD.out x (hTz x hx)
      have hTg : ∀ x ∈ g0 :: T, x ≠ mb ∧ x ≠ p ∧ x ≠ rb ∧ x ≠ cb ∧ x ≠ db := fun x hx => by
        rcases List.mem_cons.1 hx with rfl | hx
        · have h1 := HNE.out; exact ⟨h1.1, h1.2.1, h1.2.2.1, h1.2.2.2.1, h1.2.2.2.2.1⟩
        · have h1 := hTo x hx
          exact ⟨h1.2.2.2, fun h => h1.1 (h ▸ HIN.out.2.2.2), fun h => h1.1 (h ▸ HIN.out.1), fun h => h1.1 (h ▸ HIN.out.2.1), fun h => h1.1 (h ▸ HIN.out.2.2.1)⟩
      have hmz : MapV Tryz.prog K64 wz mb n f := HMV6.out.keep hfz (fun hm => (hTg _ hm).1 rfl)
      have hrz : Rdr wz rb cb db b5 := HR6.out.keep hfz (fun hm => (hTg _ hm).2.2.1 rfl) (fun hm => (hTg _ hm).2.2.2.1 rfl) (fun hm => (hTg _ hm).2.2.2.2 rfl)
      have hxz : wz.cell? ⟨p, 0, none⟩ = some (.map (some mb)) := (hfz.cell (p := ⟨p, 0, none⟩) (block_lt_of_cell HX6.out) (fun hm => (hTg _ hm).2.1 rfl)).trans HX6.out
      have hfw : Frm (rb :: T) w wz := (HF3.out.trans HF6.out (U := [rb]) (fun x hx => hx) (fun x hx => .inl hx)).trans hfz (fun x hx => by simp at hx; simp [hx]) (fun x hx => by
        rcases List.mem_cons.1 hx with rfl | hx
        · have h1 := HNE.out.2.2.2.2.2.2.1; have h2 := HF2.out.size; exact .inr (by omega)
        · exact .inl (by simp [hx]))
      have END : Hid (∀ w', MapV Tryz.prog K64 w' mb (n + 1) (updV f i (.agg #[m', .int .u64 (l'.sure : Nat), .bool l'.fen, .bool l'.gone])) → Frm [mb] wz.drew w' → Q (.returned (.tuple #[])) w') := Lib.hid (fun w' h1 h2 => FIN.out wz w' (rb :: T) b5 m' l' (by rw [hl']; exact HSAY.out) HGONE.out hfw (fun x hx => by
        rcases List.mem_cons.1 hx with rfl | hx
        · exact .inl rfl
        · have h3 := hTo x hx; exact .inr ⟨h3.1, h3.2.1, h3.2.2.1⟩) hrz hmz hoz hsz hown h1 h2.undrew)
      have MV := Lib.hid (hmz.keep (Frm.refl [] wz).drew (by simp))
      have hZ0 : ∀ y, Frm [mb] wz y → y.cell? ⟨p, 0, none⟩ = some (.map (some mb)) := fun y hy => (hy.cell (p := ⟨p, 0, none⟩) (block_lt_of_cell hxz) (by simpa using HNE.out.2.2.2.2.2.1)).trans hxz
      have hZ1 : ∀ y, Frm [mb] wz y → y.cell? ⟨g0, 0, none⟩ = some m' := fun y hy => (hy.whole hwz (by simpa using HNE.out.1)).cell 0
      have hZ2 : ∀ y, Frm [mb] wz y → y.cell? ⟨g0, 1, none⟩ = some (.int .u64 (l'.sure : Nat)) := fun y hy => (hy.whole hwz (by simpa using HNE.out.1)).cell 1
      have hZ3 : ∀ y, Frm [mb] wz y → y.cell? ⟨g0, 2, none⟩ = some (.bool l'.fen) := fun y hy => (hy.whole hwz (by simpa using HNE.out.1)).cell 2
      have hZ4 : ∀ y, Frm [mb] wz y → y.cell? ⟨g0, 3, none⟩ = some (.bool l'.gone) := fun y hy => (hy.whole hwz (by simpa using HNE.out.1)).cell 3
      clear hfz hTz hoz hsz hown hwz had hl' hTo hTg hmz hrz hxz hfw HAD FIN ER
      rw [← HG.out]
      go_wp2
      refine wp_region_held_drew (S := fun w' => Frm [mb] wz w') (by kernel_rfl) (Frm.drew (Frm.refl _ _)) (fun hHeld => ?_)
      refine wpAnyH_take (i := 0) (oi := ⟨some 39, _, _, _, _, _⟩) (v := ?_) rfl (by kernel_rfl) (by kernel_rfl) (by kernel_rfl) (fun _ _ _ h => h) (Or.inl ⟨by rfl, ?_⟩) (by assumption) ?_
      rotate_left 1
      · (intro w hSw; (try dsimp only at hSw); go_simp; all_goals with_reducible rfl)
      try simp only [Act.put, List.setIfInBounds_toArray, List.set_cons_zero, List.set_cons_succ]
      refine wpAnyH_take (i := 1) (oi := ⟨some 40, _, _, _, _, _⟩) (v := ?_) rfl (by kernel_rfl) (by kernel_rfl) (by kernel_rfl) (fun _ _ _ h => h) (Or.inl ⟨by rfl, ?_⟩) (by assumption) ?_
      rotate_left 1
      · (intro w hSw; (try dsimp only at hSw); go_simp; all_goals with_reducible rfl)
      try simp only [Act.put, List.setIfInBounds_toArray, List.set_cons_zero, List.set_cons_succ]
      refine wpAnyH_take (i := 2) (oi := ⟨some 41, _, _, _, _, _⟩) (v := ?_) rfl (by kernel_rfl) (by kernel_rfl) (by kernel_rfl) (fun _ _ _ h => h) (Or.inl ⟨by rfl, ?_⟩) (by assumption) ?_
      rotate_left 1
      · (intro w hSw; (try dsimp only at hSw); go_simp; all_goals with_reducible rfl)
      try simp only [Act.put, List.setIfInBounds_toArray, List.set_cons_zero, List.set_cons_succ]
      refine wpAnyH_take (i := 3) (oi := ⟨some 42, _, _, _, _, _⟩) (v := ?_) rfl (by kernel_rfl) (by kernel_rfl) (by kernel_rfl) (fun _ _ _ h => h) (Or.inl ⟨by rfl, ?_⟩) (by assumption) ?_
      rotate_left 1
      · (intro w hSw; (try dsimp only at hSw); go_simp; all_goals with_reducible rfl)
      try simp only [Act.put, List.setIfInBounds_toArray, List.set_cons_zero, List.set_cons_succ]
      refine wpAnyH_take (i := 4) (oi := ⟨some 43, _, _, _, _, _⟩) (v := ?_) rfl (by kernel_rfl) (by kernel_rfl) (by kernel_rfl) (fun _ _ _ h => h) (Or.inl ⟨by rfl, ?_⟩) (by assumption) ?_
      rotate_left 1
      · (intro w hSw; (try dsimp only at hSw); go_simp; all_goals with_reducible rfl)
      try simp only [Act.put, List.setIfInBounds_toArray, List.set_cons_zero, List.set_cons_succ]
      refine wpAnyH_take (i := 5) (oi := ⟨some 44, _, _, _, _, _⟩) (v := ?_) rfl (by kernel_rfl) (by kernel_rfl) (by kernel_rfl) (fun _ _ _ h => h) (Or.inl ⟨by rfl, ?_⟩) (by assumption) ?_
      rotate_left 1
      · (intro w hSw; (try dsimp only at hSw); go_simp; all_goals with_reducible rfl)
      try simp only [Act.put, List.setIfInBounds_toArray, List.set_cons_zero, List.set_cons_succ]
      refine wpAnyH_ready (rs := [6]) (by kernel_rfl) (by simp) ?_
      refine AllReadyH.cons (o := ⟨none, _, _, _, _, _⟩) rfl (fun K hK => ?_) AllReadyH.nil
      refine step_putV (by rfl) (.tmp 42) (.tmp 43) (.tmp 44) 71 99 rfl Tryz.underlying71 mb n f rfl MV.out (by unfold maxLen; omega) i HI.out rfl ?_
      intro w' h2 hf2
      have HE := Lib.hid (END.out w' h2 hf2)
      refine hK.out _ _ ((Frm.refl [mb] wz).drew.trans hf2 (fun x hx => hx) (fun x hx => .inl hx)) (fun hHeld => ?_)
      clear hK K h2 hf2 MV END
      try simp only [Act.put]
      refine wpAnyH_done (by kernel_rfl) ?_ _
      go_wp2
      go_end0
      exact HE.out
    · have hd1 : ((k : Int) == 1) = false := by simp; omega
      have HOWN2 : Hid (∀ c, Value.map o = .map (some c) → c ≠ mb ∧ B ≤ c ∧ ∀ j, j < N64 → j ≠ i → g j ≠ .map (some c)) := Lib.hid (by
        intro c hc
        rw [HM.out] at hc
        exact ⟨(HFAR.out i c HI.out hc).1, (HFAR.out i c HI.out hc).2, fun j hj hji h => hji (HINJ.out j i c hj HI.out h hc)⟩)
      have HOWN3 : Hid (∀ c, Value.map none = .map (some c) → c ≠ mb ∧ B ≤ c ∧ ∀ j, j < N64 → j ≠ i → g j ≠ .map (some c)) := Lib.hid (by
        intro c hc
        cases hc)
      have HX2 : Hid (w2.cell? ⟨p, 0, none⟩ = some (.map (some mb))) := Lib.hid hx2
      have q2 : (w2.alloc (.cells #[.map o, .int .u64 (l.sure : Nat), .bool l.fen, .bool false] 99)).cell? ⟨w2.heap.size, 2, none⟩ = some (.bool l.fen) := (Whole.made w2 _ _).cell 2
      by_cases hk2 : k = 2
      · subst hk2
        have HGF : Hid (stoV (.map o) (fenL l) = .agg #[.map o, .int .u64 (l.sure : Nat), .bool true, .bool false]) := Lib.hid (by unfold stoV fenL; rw [HGONE.out])
        have hd2 : (((2 : Nat) : Int) == 2) = true := rfl
        obtain ⟨wz, hwzE⟩ : ∃ wz, wz = w2.alloc (.cells #[.map o, .int .u64 (l.sure : Nat), .bool true, .bool false] 99) := ⟨_, rfl⟩
        have hwz : Whole wz g0 99 #[.map o, .int .u64 (l.sure : Nat), .bool true, .bool false] := by rw [hwzE, HG.out]; exact Whole.made w2 _ _
        have hf2z : Frm [] w2 wz := by rw [hwzE]; exact (Frm.refl _ _).alloc _
        have hoz : ∀ j, j < N64 → j ≠ i → StoV wz F n (g j) (S j) := fun j hj _ => (HST2.out j hj).keep hf2z (by simp) (fun x hx => .inl hx)
        have hst2 := HST2.out i HI.out
        rw [← HL.out, ← HM.out] at hst2
        have hsz : StoV wz F (n + 1) (.map o) (fenL l) := by
          have h := (hst2.keep (F' := F) hf2z (by simp) (fun x hx => .inl hx)).mono (Nat.le_succ n)
          exact ⟨h.map, h.far, h.rise, h.few, h.keys, h.sure⟩
        have hmz : MapV Tryz.prog K64 wz mb n f := HMV2.out.keep hf2z (by simp)
        have hrz : Rdr wz rb cb db b2 := HR2.out.keep hf2z (by simp) (by simp) (by simp)
        have hxz : wz.cell? ⟨p, 0, none⟩ = some (.map (some mb)) := (hf2z.cell (p := ⟨p, 0, none⟩) (block_lt_of_cell HX2.out) (by simp)).trans HX2.out
        have END : Hid (∀ w', MapV Tryz.prog K64 w' mb (n + 1) (updV f i (.agg #[.map o, .int .u64 (l.sure : Nat), .bool true, .bool false])) → Frm [mb] wz.drew w' → Q (.returned (.tuple #[])) w') := Lib.hid (fun w' h1 h2 => by
          rw [← HGF.out] at h1
          exact FIN.out wz w' [rb] b2 (.map o) (fenL l) (by unfold sayL; rw [if_neg (by decide), if_pos rfl]) HGONE.out (HF2.out.trans hf2z (fun x hx => hx) (by simp)) (fun x hx => .inl (by simpa using hx)) hrz hmz hoz hsz (HOWN2.out) h1 h2.undrew)
        have MV := Lib.hid (hmz.keep (Frm.refl [] wz).drew (by simp))
        have hZ0 : ∀ y, Frm [mb] wz y → y.cell? ⟨p, 0, none⟩ = some (.map (some mb)) := fun y hy => (hy.cell (p := ⟨p, 0, none⟩) (block_lt_of_cell hxz) (by simpa using HNE.out.2.2.2.2.2.1)).trans hxz
        have hZ1 : ∀ y, Frm [mb] wz y → y.cell? ⟨g0, 0, none⟩ = some (_) := fun y hy => (hy.whole hwz (by simpa using HNE.out.1)).cell 0
        have hZ2 : ∀ y, Frm [mb] wz y → y.cell? ⟨g0, 1, none⟩ = some (_) := fun y hy => (hy.whole hwz (by simpa using HNE.out.1)).cell 1
        have hZ3 : ∀ y, Frm [mb] wz y → y.cell? ⟨g0, 2, none⟩ = some (_) := fun y hy => (hy.whole hwz (by simpa using HNE.out.1)).cell 2
        have hZ4 : ∀ y, Frm [mb] wz y → y.cell? ⟨g0, 3, none⟩ = some (_) := fun y hy => (hy.whole hwz (by simpa using HNE.out.1)).cell 3
        have HWZ := Lib.hid hwzE
        clear hf2z hoz hst2 hsz hmz hrz hxz hwz FIN ER hwzE hgone hgone'
        go_wp2_with (refine wpList_lookV w2 rfl (.tmp 14) (.tmp 15) 71 99 rfl key64 Tryz.underlying71 (zeroSto w2) n f (.inr ⟨mb, rfl, HMV2.out⟩) i HI.out rfl ?_; rw [HLK.out, show stoV (.map o) l = .agg #[.map o, .int .u64 (l.sure : Nat), .bool l.fen, .bool l.gone] from rfl])
        rw [← HWZ.out, ← HG.out]
        clear q3
        refine wp_region_held_drew (S := fun w' => Frm [mb] wz w') (by kernel_rfl) (Frm.drew (Frm.refl _ _)) (fun hHeld => ?_)
        refine wpAnyH_take (i := 0) (oi := ⟨some 39, _, _, _, _, _⟩) (v := ?_) rfl (by kernel_rfl) (by kernel_rfl) (by kernel_rfl) (fun _ _ _ h => h) (Or.inl ⟨by rfl, ?_⟩) (by assumption) ?_
        rotate_left 1
        · (intro w hSw; (try dsimp only at hSw); go_simp; all_goals with_reducible rfl)
        try simp only [Act.put, List.setIfInBounds_toArray, List.set_cons_zero, List.set_cons_succ]
        refine wpAnyH_take (i := 1) (oi := ⟨some 40, _, _, _, _, _⟩) (v := ?_) rfl (by kernel_rfl) (by kernel_rfl) (by kernel_rfl) (fun _ _ _ h => h) (Or.inl ⟨by rfl, ?_⟩) (by assumption) ?_
        rotate_left 1
        · (intro w hSw; (try dsimp only at hSw); go_simp; all_goals with_reducible rfl)
        try simp only [Act.put, List.setIfInBounds_toArray, List.set_cons_zero, List.set_cons_succ]
        refine wpAnyH_take (i := 2) (oi := ⟨some 41, _, _, _, _, _⟩) (v := ?_) rfl (by kernel_rfl) (by kernel_rfl) (by kernel_rfl) (fun _ _ _ h => h) (Or.inl ⟨by rfl, ?_⟩) (by assumption) ?_
        rotate_left 1
        · (intro w hSw; (try dsimp only at hSw); go_simp; all_goals with_reducible rfl)
        try simp only [Act.put, List.setIfInBounds_toArray, List.set_cons_zero, List.set_cons_succ]
        refine wpAnyH_take (i := 3) (oi := ⟨some 42, _, _, _, _, _⟩) (v := ?_) rfl (by kernel_rfl) (by kernel_rfl) (by kernel_rfl) (fun _ _ _ h => h) (Or.inl ⟨by rfl, ?_⟩) (by assumption) ?_
        rotate_left 1
        · (intro w hSw; (try dsimp only at hSw); go_simp; all_goals with_reducible rfl)
        try simp only [Act.put, List.setIfInBounds_toArray, List.set_cons_zero, List.set_cons_succ]
        refine wpAnyH_take (i := 4) (oi := ⟨some 43, _, _, _, _, _⟩) (v := ?_) rfl (by kernel_rfl) (by kernel_rfl) (by kernel_rfl) (fun _ _ _ h => h) (Or.inl ⟨by rfl, ?_⟩) (by assumption) ?_
        rotate_left 1
        · (intro w hSw; (try dsimp only at hSw); go_simp; all_goals with_reducible rfl)
        try simp only [Act.put, List.setIfInBounds_toArray, List.set_cons_zero, List.set_cons_succ]
        refine wpAnyH_take (i := 5) (oi := ⟨some 44, _, _, _, _, _⟩) (v := ?_) rfl (by kernel_rfl) (by kernel_rfl) (by kernel_rfl) (fun _ _ _ h => h) (Or.inl ⟨by rfl, ?_⟩) (by assumption) ?_
        rotate_left 1
        · (intro w hSw; (try dsimp only at hSw); go_simp; all_goals with_reducible rfl)
        try simp only [Act.put, List.setIfInBounds_toArray, List.set_cons_zero, List.set_cons_succ]
        refine wpAnyH_ready (rs := [6]) (by kernel_rfl) (by simp) ?_
        refine AllReadyH.cons (o := ⟨none, _, _, _, _, _⟩) rfl (fun K hK => ?_) AllReadyH.nil
        refine step_putV (by rfl) (.tmp 42) (.tmp 43) (.tmp 44) 71 99 rfl Tryz.underlying71 mb n f rfl MV.out (by unfold maxLen; omega) i HI.out rfl ?_
        intro w' h2 hf2
        have HE := Lib.hid (END.out w' h2 hf2)
        refine hK.out _ _ ((Frm.refl [mb] wz).drew.trans hf2 (fun x hx => hx) (fun x hx => .inl hx)) (fun hHeld => ?_)
        clear hK K h2 hf2 MV END
        try simp only [Act.put]
        refine wpAnyH_done (by kernel_rfl) ?_ _
        go_wp2
        go_end0
        exact HE.out
      · have hd2 : ((k : Int) == 2) = false := by simp; omega
        by_cases hk3 : k = 3
        · subst hk3
          have hd3 : (((3 : Nat) : Int) == 3) = true := rfl
          obtain ⟨wz, hwzE⟩ : ∃ wz, wz = w2.alloc (.cells #[.map none, .int .u64 0, .bool false, .bool true] 99) := ⟨_, rfl⟩
          have hwz : Whole wz g0 99 #[.map none, .int .u64 0, .bool false, .bool true] := by rw [hwzE, HG.out]; exact Whole.made w2 _ _
          have hf2z : Frm [] w2 wz := by rw [hwzE]; exact (Frm.refl _ _).alloc _
          have hoz : ∀ j, j < N64 → j ≠ i → StoV wz F n (g j) (S j) := fun j hj _ => (HST2.out j hj).keep hf2z (by simp) (fun x hx => .inl hx)
          have hst2 := HST2.out i HI.out
          rw [← HL.out, ← HM.out] at hst2
          have hsz : StoV wz F (n + 1) (.map none) dropL := by
            have h := StoV.zero wz F (n + 1)
            exact ⟨h.map, h.far, h.rise, h.few, h.keys, h.sure⟩
          have hmz : MapV Tryz.prog K64 wz mb n f := HMV2.out.keep hf2z (by simp)
          have hrz : Rdr wz rb cb db b2 := HR2.out.keep hf2z (by simp) (by simp) (by simp)
          have hxz : wz.cell? ⟨p, 0, none⟩ = some (.map (some mb)) := (hf2z.cell (p := ⟨p, 0, none⟩) (block_lt_of_cell HX2.out) (by simp)).trans HX2.out
          have END : Hid (∀ w', MapV Tryz.prog K64 w' mb (n + 1) (updV f i (.agg #[.map none, .int .u64 0, .bool false, .bool true])) → Frm [mb] wz.drew w' → Q (.returned (.tuple #[])) w') := Lib.hid (fun w' h1 h2 => FIN.out wz w' [rb] b2 (.map none) dropL (by unfold sayL; rw [if_neg (by decide), if_neg (by decide), if_pos rfl]) HGONE.out (HF2.out.trans hf2z (fun x hx => hx) (by simp)) (fun x hx => .inl (by simpa using hx)) hrz hmz hoz hsz (HOWN3.out) h1 h2.undrew)
          have MV := Lib.hid (hmz.keep (Frm.refl [] wz).drew (by simp))
          have hZ0 : ∀ y, Frm [mb] wz y → y.cell? ⟨p, 0, none⟩ = some (.map (some mb)) := fun y hy => (hy.cell (p := ⟨p, 0, none⟩) (block_lt_of_cell hxz) (by simpa using HNE.out.2.2.2.2.2.1)).trans hxz
          have hZ1 : ∀ y, Frm [mb] wz y → y.cell? ⟨g0, 0, none⟩ = some (_) := fun y hy => (hy.whole hwz (by simpa using HNE.out.1)).cell 0
          have hZ2 : ∀ y, Frm [mb] wz y → y.cell? ⟨g0, 1, none⟩ = some (_) := fun y hy => (hy.whole hwz (by simpa using HNE.out.1)).cell 1
          have hZ3 : ∀ y, Frm [mb] wz y → y.cell? ⟨g0, 2, none⟩ = some (_) := fun y hy => (hy.whole hwz (by simpa using HNE.out.1)).cell 2
          have hZ4 : ∀ y, Frm [mb] wz y → y.cell? ⟨g0, 3, none⟩ = some (_) := fun y hy => (hy.whole hwz (by simpa using HNE.out.1)).cell 3
          have HWZ := Lib.hid hwzE
          clear hf2z hoz hst2 hsz hmz hrz hxz hwz FIN ER hwzE hgone hgone'
          go_wp2_with (refine wpList_lookV w2 rfl (.tmp 14) (.tmp 15) 71 99 rfl key64 Tryz.underlying71 (zeroSto w2) n f (.inr ⟨mb, rfl, HMV2.out⟩) i HI.out rfl ?_; rw [HLK.out, show stoV (.map o) l = .agg #[.map o, .int .u64 (l.sure : Nat), .bool l.fen, .bool l.gone] from rfl])
          rw [← HWZ.out, ← HG.out]
          clear q3
          refine wp_region_held_drew (S := fun w' => Frm [mb] wz w') (by kernel_rfl) (Frm.drew (Frm.refl _ _)) (fun hHeld => ?_)
          refine wpAnyH_take (i := 0) (oi := ⟨some 39, _, _, _, _, _⟩) (v := ?_) rfl (by kernel_rfl) (by kernel_rfl) (by kernel_rfl) (fun _ _ _ h => h) (Or.inl ⟨by rfl, ?_⟩) (by assumption) ?_
          rotate_left 1
          · (intro w hSw; (try dsimp only at hSw); go_simp; all_goals with_reducible rfl)
          try simp only [Act.put, List.setIfInBounds_toArray, List.set_cons_zero, List.set_cons_succ]
          refine wpAnyH_take (i := 1) (oi := ⟨some 40, _, _, _, _, _⟩) (v := ?_) rfl (by kernel_rfl) (by kernel_rfl) (by kernel_rfl) (fun _ _ _ h => h) (Or.inl ⟨by rfl, ?_⟩) (by assumption) ?_
          rotate_left 1
          · (intro w hSw; (try dsimp only at hSw); go_simp; all_goals with_reducible rfl)
          try simp only [Act.put, List.setIfInBounds_toArray, List.set_cons_zero, List.set_cons_succ]
          refine wpAnyH_take (i := 2) (oi := ⟨some 41, _, _, _, _, _⟩) (v := ?_) rfl (by kernel_rfl) (by kernel_rfl) (by kernel_rfl) (fun _ _ _ h => h) (Or.inl ⟨by rfl, ?_⟩) (by assumption) ?_
          rotate_left 1
          · (intro w hSw; (try dsimp only at hSw); go_simp; all_goals with_reducible rfl)
          try simp only [Act.put, List.setIfInBounds_toArray, List.set_cons_zero, List.set_cons_succ]
          refine wpAnyH_take (i := 3) (oi := ⟨some 42, _, _, _, _, _⟩) (v := ?_) rfl (by kernel_rfl) (by kernel_rfl) (by kernel_rfl) (fun _ _ _ h => h) (Or.inl ⟨by rfl, ?_⟩) (by assumption) ?_
          rotate_left 1
          · (intro w hSw; (try dsimp only at hSw); go_simp; all_goals with_reducible rfl)
          try simp only [Act.put, List.setIfInBounds_toArray, List.set_cons_zero, List.set_cons_succ]
          refine wpAnyH_take (i := 4) (oi := ⟨some 43, _, _, _, _, _⟩) (v := ?_) rfl (by kernel_rfl) (by kernel_rfl) (by kernel_rfl) (fun _ _ _ h => h) (Or.inl ⟨by rfl, ?_⟩) (by assumption) ?_
          rotate_left 1
          · (intro w hSw; (try dsimp only at hSw); go_simp; all_goals with_reducible rfl)
          try simp only [Act.put, List.setIfInBounds_toArray, List.set_cons_zero, List.set_cons_succ]
          refine wpAnyH_take (i := 5) (oi := ⟨some 44, _, _, _, _, _⟩) (v := ?_) rfl (by kernel_rfl) (by kernel_rfl) (by kernel_rfl) (fun _ _ _ h => h) (Or.inl ⟨by rfl, ?_⟩) (by assumption) ?_
          rotate_left 1
          · (intro w hSw; (try dsimp only at hSw); go_simp; all_goals with_reducible rfl)
          try simp only [Act.put, List.setIfInBounds_toArray, List.set_cons_zero, List.set_cons_succ]
          refine wpAnyH_ready (rs := [6]) (by kernel_rfl) (by simp) ?_
          refine AllReadyH.cons (o := ⟨none, _, _, _, _, _⟩) rfl (fun K hK => ?_) AllReadyH.nil
          refine step_putV (by rfl) (.tmp 42) (.tmp 43) (.tmp 44) 71 99 rfl Tryz.underlying71 mb n f rfl MV.out (by unfold maxLen; omega) i HI.out rfl ?_
          intro w' h2 hf2
          have HE := Lib.hid (END.out w' h2 hf2)
          refine hK.out _ _ ((Frm.refl [mb] wz).drew.trans hf2 (fun x hx => hx) (fun x hx => .inl hx)) (fun hHeld => ?_)
          clear hK K h2 hf2 MV END
          try simp only [Act.put]
          refine wpAnyH_done (by kernel_rfl) ?_ _
          go_wp2
          go_end0
          exact HE.out
        · have hd3 : ((k : Int) == 3) = false := by simp; omega
          have HSN : Hid (shPre S b = none) := Lib.hid (HSAYN.out none (by unfold sayL; rw [if_neg hk1, if_neg hk2, if_neg hk3]))
          clear hgone hgone'
          go_wp2_with (refine wpList_lookV w2 rfl (.tmp 14) (.tmp 15) 71 99 rfl key64 Tryz.underlying71 (zeroSto w2) n f (.inr ⟨mb, rfl, HMV2.out⟩) i HI.out rfl ?_; rw [HLK.out, show stoV (.map o) l = .agg #[.map o, .int .u64 (l.sure : Nat), .bool l.fen, .bool l.gone] from rfl])
          rw [← HWT.out]
          refine (fail1_any 23 HR3.out (by decide)).mono ?_
          rintro e w4 ht
          have hb := ER.out _ _ _ 23 (by decide) HF3.out HSN.out ht
          obtain ⟨rfl, _⟩ := ht
          exact ⟨rfl, hb⟩
end Go.Proofs.YtamcandcfainfaaGreat
/- Contract of Read with the shelf's replay: a record is said, or refused. -/
namespace Go.Proofs.YtamcandcfainfaaGreat
open Go.RowKit
set_option maxRecDepth 100000

/-- What Read answers of a record, and what it leaves. -/
def SayEnd (w : World) (B : Nat) (F : List Nat) (mb n : Nat) (S : Nd9) (b : List Nat) (e : Ending) (w' : World) : Prop :=
  (∃ S' T, say1 S b = some S' ∧ e = .returned (.int .i64 0) ∧ ShM w' B F mb (n + 1) S' ∧ Frm T w w' ∧ ∀ x ∈ T, x ∉ F ∧ B ≤ x) ∨
  (say1 S b = none ∧ ∃ (c : Nat) (T : List Nat), c ≠ 0 ∧ e = .returned (.int .i64 (c : Nat)) ∧ Frm T w w' ∧ ∀ x ∈ T, x ∉ F ∧ B ≤ x)
theorem enters_replay9 (args : Array Value) (w : World) : (callFunc 48 args).run Tryz.prog w = .ok (.enter 48 args) w := by
  kernel_rfl
theorem say_pre_some {S : Nd9} {b m : List Nat} {i : Nat} {l : Lg} (h : shPre S b = some (i, l, m)) : say1 S b = if m = [] then some (updS S i l) else none := by
  unfold say1; rw [h]
theorem say_pre_none {S : Nd9} {b : List Nat} (h : shPre S b = none) : say1 S b = none := by
  unfold say1; rw [h]

set_option maxHeartbeats 8000000 in
theorem say_any {w : World} {B mb n p : Nat} {F : List Nat} {S : Nd9} (a : Option Addr) (len cap : Nat) (b : List Nat) (h : ShM w B F mb n S) (hp : w.cell? ⟨p, 0, none⟩ = some (.map (some mb))) (hF : ∀ y ∈ F, y < w.heap.size) (hpF : p ∈ F) (hn : n < 20000000)
    (hb : Bytes w a b) (hlen : len = b.length) (hnil : a = none → cap = 0) (hfit : b.length ≤ 4096) :
    Calls Tryz.prog 47 #[.slice a len cap, .func (.func 48) #[.pointer (some ⟨p, 0, none⟩)] #[]] w (SayEnd w B F mb n S b) := by
  have hpl := block_lt_of_cell hp
  have hfit2 : len ≤ 140737488355328 := by omega
  have BY : ∀ w1 rb cb db, Told w w1 rb cb db b → Calls Tryz.prog 48 #[.pointer (some ⟨p, 0, none⟩), .pointer (some ⟨rb, 0, none⟩)] w1 (ReplayEnd w1 w.heap.size B (rb :: cb :: db :: w.heap.size :: (w.heap.size + 1) :: F) mb n rb cb db S b) := by
    intro w1 rb cb db ht
    have h2 := ht.two9
    have h3 := ht.hr
    have h4 := ht.hc
    have h5 := ht.hd
    have hlt := ht.rdr.lt
    have hdl := ht.dlt
    have hpl' : p < w.heap.size := hpl
    have hnew : ∀ y ∈ rb :: cb :: db :: w.heap.size :: (w.heap.size + 1) :: F, y ∈ F ∨ w.heap.size ≤ y := by
      intro y hy
      simp at hy
      rcases hy with rfl | rfl | rfl | rfl | rfl | hy
      all_goals first | exact .inl hy | (right; omega)
    refine replay_any (h.keep (Frm.refl [] w) (by simp) hnew) ht.frm ht.rdr ht.dlt ((ht.frm.cell (p := ⟨p, 0, none⟩) hpl (by simp)).trans hp) (fun y hy => ?_) ⟨by simp, by simp, by simp, by simp [hpF]⟩ ⟨by omega, by omega⟩ hn
    simp at hy
    rcases hy with rfl | rfl | rfl | rfl | rfl | hy
    · exact hlt.1
    · exact hlt.2
    · exact hdl
    · omega
    · omega
    · have := hF y hy; omega
  cases hpre : shPre S b with
  | some r =>
    obtain ⟨i, l, m⟩ := r
    refine (read_ret9 48 (.pointer (some ⟨p, 0, none⟩)) a len cap b w (fun w2 rest => rest = m ∧ ∃ T, ShM w2 B (w.heap.size :: (w.heap.size + 1) :: F) mb (n + 1) (updS S i l) ∧ Frm T w w2 ∧ ∀ x ∈ T, x ∉ F ∧ B ≤ x ∧ x < w.heap.size) hb hlen hnil hfit2 enters_replay9 (fun w1 rb cb db ht => (BY w1 rb cb db ht).mono ?_)).mono ?_
    · rintro e w2 (⟨i', l', m2, T, hp1, hi, rfl, hms, hr, hf, hT⟩ | ⟨hno, _⟩)
      · rw [hpre] at hp1
        cases hp1
        have hT2 : ∀ y ∈ T, y = rb ∨ (y ∉ F ∧ B ≤ y ∧ y < w.heap.size) := fun y hy => by
          rcases hT y hy with h1 | ⟨h1, h2, h3⟩
          · exact .inl h1
          · refine .inr ⟨fun hm => h1 (by simp [hm]), h2, h3⟩
        refine ⟨rfl, m, T, ⟨rfl, T.filter (fun y => decide (y ≠ rb)), hms.keep (T := []) (Frm.refl _ _) (by simp) (fun y hy => .inl (List.mem_cons_of_mem _ (List.mem_cons_of_mem _ (List.mem_cons_of_mem _ hy)))), ?_, fun y hy => ?_⟩, hr, hf, fun y hy => ?_⟩
        · refine ht.frm.trans hf (by simp) (fun y hy => ?_)
          by_cases hyr : y = rb
          · exact .inr (by rw [hyr]; exact ht.hr)
          · exact .inl (List.mem_filter.2 ⟨hy, by simpa using hyr⟩)
        · obtain ⟨hy1, hy2⟩ := List.mem_filter.1 hy
          rcases hT2 y hy1 with h1 | h1
          · exact absurd h1 (by simpa using hy2)
          · exact h1
        · rcases hT2 y hy with h1 | h1
          · exact .inl h1
          · exact .inr (.inr (.inl h1.2.2))
      · rw [hpre] at hno; cases hno
    · rintro e w' ⟨w2, c, T0, rfl, ⟨rest, ⟨rfl, T, hms, hf2, hT⟩, hc⟩, hf3, hT0⟩
      have hall : Frm T w w' := hf2.trans hf3 (fun y hy => hy) (fun y hy => .inr (hT0 y hy).1)
      have hms' : ShM w' B F mb (n + 1) (updS S i l) := hms.keep hf3 (fun y hy => .inl (by have := hT0 y hy; simp; omega)) (fun y hy => .inl (by simp [hy]))
      by_cases hr : rest = []
      · rw [if_pos hr] at hc
        subst hc
        exact .inl ⟨_, T, by rw [say_pre_some hpre, if_pos hr], rfl, hms', hall, fun x hx => ⟨(hT x hx).1, (hT x hx).2.1⟩⟩
      · rw [if_neg hr] at hc
        subst hc
        exact .inr ⟨by rw [say_pre_some hpre, if_neg hr], 5, T, by decide, rfl, hall, fun x hx => ⟨(hT x hx).1, (hT x hx).2.1⟩⟩
  | none =>
    refine (read_throw9 48 (.pointer (some ⟨p, 0, none⟩)) a len cap b w (fun w2 => Frm [] w w2) (fun c => ∃ k : Nat, k ≠ 0 ∧ c = (k : Nat)) hb hlen hnil hfit2 enters_replay9 (fun w1 rb cb db ht => (BY w1 rb cb db ht).mono ?_)).mono ?_
    · rintro e w2 (⟨i', l', m2, T, hp1, _⟩ | ⟨_, c, hc, rfl, hcw, hf⟩)
      · rw [hpre] at hp1; cases hp1
      · refine ⟨(c : Nat), ⟨c, hc, rfl⟩, rfl, [rb, cb], ?_, hcw, hf, fun y hy => ?_⟩
        · refine ht.frm.trans hf (by simp) (fun y hy => ?_)
          simp at hy
          rcases hy with rfl | rfl
          · exact .inr ht.hr
          · exact .inr ht.hc
        · simp at hy
          rcases hy with rfl | rfl
          · exact .inl rfl
          · exact .inr (.inl rfl)
    · rintro e w' ⟨w2, c, T0, rfl, ⟨hf2, k, hk, rfl⟩, hf3, hT0⟩
      exact .inr ⟨say_pre_none hpre, k, [], hk, rfl, hf2.trans hf3 (by simp) (fun y hy => .inr (hT0 y hy).1), by simp⟩
end Go.Proofs.YtamcandcfainfaaGreat
/- Contracts of the shelf's twin, told. -/
namespace Go.Proofs.YtamcandcfainfaaGreat
open Go.RowKit
set_option maxRecDepth 100000

set_option maxHeartbeats 2000000 in
theorem twin9_any {w : World} {B p : Nat} {F l : List Nat} {s room : Nat} (h : Dk w B p F l s room) :
    Calls Tryz.prog 46 #[.pointer (some ⟨p, 0, none⟩)] w fun e w' => ∃ q F' B', e = .returned (.pointer (some ⟨q, 0, none⟩)) ∧ w.heap.size ≤ B' ∧ Dk w' B' q F' l 0 l.length ∧ Frm [] w w' := by
  obtain ⟨n, hn⟩ : ∃ n, n = l.length := ⟨_, rfl⟩
  have h8 := h.1.1
  have hr := h.1.2.2
  have HB := Lib.hid (dbytes_any h)
  have HN := Lib.hid hn
  have hn24 : n ≤ 16777216 := by omega
  have H8 := Lib.hid h8
  clear h h8 hr hn
  go_enter Tryz.func46, Tryz.ntmps46
  go_wp2_with fail
  (with_reducible refine HB.out.mono ?_)
  rintro e w1 ⟨a, c, rfl, ho, hf1⟩
  rw [← HN.out] at ho ⊢
  have HO := Lib.hid ho
  have HF1 := Lib.hid hf1
  clear ho hf1 HB
  go_wp2_with fail
  (with_reducible refine (new_ok n w1 hn24).mono ?_)
  rintro e w2 ⟨rfl, hd2, hf2, hz2⟩
  obtain ⟨q, hq⟩ : ∃ q, q = w1.heap.size := ⟨_, rfl⟩
  rw [← hq] at hd2 ⊢
  have HD2 := Lib.hid hd2
  have hown := HO.out
  rw [HN.out] at hown
  have hob := bytes_of_own hown H8.out
  have HBY := Lib.hid (hf2.bytes' hob.2.1 (by simp))
  have HNL := Lib.hid hob.2.2
  have HF2 := Lib.hid hf2
  have HQ := Lib.hid hq
  clear hd2 hf2 hz2 hq hown hob
  go_wp2_with fail
  (with_reducible refine (append_ok a n c l HD2.out HBY.out HN.out HNL.out (by rw [← HN.out]; simp)).mono ?_)
  rintro e w3 ⟨rfl, F', hd3, hf3, hx3⟩
  have HE := Lib.hid (show w.heap.size ≤ q ∧ Dk w3 q q F' l 0 l.length ∧ Frm [] w w3 from by
    have h1 := HF1.out.size
    have h2 := HQ.out
    rw [List.nil_append, HN.out] at hd3
    exact ⟨by omega, hd3, (HF1.out.trans HF2.out (U := []) (by simp) (by simp)).trans hf3 (by simp) (fun x hx => by simp at hx; subst hx; right; omega)⟩)
  clear hd3 hf3 hx3
  go_wp2
  go_ret
  exact ⟨q, F', _, rfl, HE.out⟩

/-- A node of which nothing was told. -/
abbrev nd0 : Nd9 := fun _ => {}
/-- What told answers. -/
def Told9End (w : World) (F l : List Nat) (e : Ending) (w' : World) : Prop :=
  (∃ S mb, sayAll nd0 (recs l) = some S ∧ e = .returned (.tuple #[.map (some mb), .int .i64 0]) ∧ ShM w' w.heap.size F mb (recs l).length S ∧ Frm [] w w') ∨
  (sayAll nd0 (recs l) = none ∧ e = .returned (.tuple #[.map none, .int .i64 23]) ∧ Frm [] w w')
/-- So many records are replayed. -/
def Td9Rel (w2 : World) (F : List Nat) (p mb : Nat) (L : List (List Nat)) (s25 : Value) (wr : World) : Prop :=
  ∃ (k : Nat) (S : Nd9), k ≤ L.length ∧ s25 = .int .i64 (k : Nat) ∧ Hid (sayAll nd0 L = (sayAll S (L.drop k))) ∧ Hid (ShM wr w2.heap.size (p :: F) mb k S) ∧ Hid (Frm [] w2 wr) ∧ wr.cell? ⟨p, 0, none⟩ = some (.map (some mb))

set_option maxHeartbeats 4000000 in
theorem told9_core {w : World} {l : List Nat} (F : List Nat) (dv : Option Addr) (h8 : ∀ c ∈ l, c < 256) (hT : ∀ z, Frm [] w z → Calls Tryz.prog 46 #[.pointer dv] z fun e w' => ∃ q F' B', e = .returned (.pointer (some ⟨q, 0, none⟩)) ∧ z.heap.size ≤ B' ∧ Dk w' B' q F' l 0 l.length ∧ Frm [] z w') (hF : ∀ x ∈ F, x < w.heap.size) (hl : l.length ≤ 16777216) :
    Calls Tryz.prog 21 #[.pointer dv] w (Told9End w F l) := by
  have HT := Lib.hid (hT _ (Frm.refl _ w))
  have HFI := Lib.hid (recs_whole l h8).2.1
  have HRL := Lib.hid (recs_len l h8)
  have HLL0 := Lib.hid hl
  have HFL := Lib.hid hF
  obtain ⟨Q, hQ⟩ : ∃ Q, Q = Told9End w F l := ⟨_, rfl⟩
  have HQ := Lib.hid hQ
  rw [← hQ]
  clear hF h8 hT hl hQ
  go_enter Tryz.func21, Tryz.ntmps21
  go_wp2_with fail
  (with_reducible refine HT.out.mono ?_)
  rintro e w1 ⟨q, F', B', rfl, hB', hd1, hf1⟩
  have HB' := Lib.hid hB'
  have HF1 := Lib.hid hf1
  have HJ := Lib.hid (jopen_any hd1)
  have HFQ : Hid (∀ x ∈ F', w.heap.size ≤ x) := Lib.hid fun x hx => Nat.le_trans hB' (hd1.lt x hx).1
  clear hB' hd1 hf1 HT
  go_wp2_with fail
  (with_reducible refine HJ.out.mono ?_)
  rintro e w2 ⟨jq, F'', a, cap, vs, rfl, hop⟩
  obtain ⟨n, hn⟩ : ∃ n, n = (recs l).length := ⟨_, rfl⟩
  rw [← hn]
  have hf02 : Frm [] w w2 := HF1.out.trans hop.frm (by simp) (fun x hx => .inr (HFQ.out x hx))
  have HLL := Lib.hid (hop.own.ll.less (F' := []) (by simp))
  have HCAP := Lib.hid hop.own.caps
  have HN := Lib.hid hn
  have HF02 := Lib.hid hf02
  clear hop hf02 HJ
  obtain ⟨w3, hw3⟩ : ∃ w3, w3 = w2.alloc (.map #[] 0) := ⟨_, rfl⟩
  obtain ⟨mb, hmb⟩ : ∃ mb, mb = w2.heap.size := ⟨_, rfl⟩
  obtain ⟨w4, hw4⟩ : ∃ w4, w4 = w3.alloc (.cells #[.map (some mb), .pointer none] 78) := ⟨_, rfl⟩
  obtain ⟨p, hp⟩ : ∃ p, p = w3.heap.size := ⟨_, rfl⟩
  have hFl2 : ∀ x ∈ F, x < w2.heap.size := fun x hx => Nat.lt_of_lt_of_le (HFL.out x hx) HF02.out.size
  have hm3 : ShM w3 w2.heap.size F mb 0 nd0 := by rw [hw3, hmb]; exact ShM.new w2 F 0 hFl2
  have hf34 : Frm [] w3 w4 := by rw [hw4]; exact (Frm.refl _ _).alloc _
  have hf23 : Frm [] w2 w3 := by rw [hw3]; exact (Frm.refl _ _).alloc _
  have hp4 : Whole w4 p 78 #[.map (some mb), .pointer none] := by rw [hw4, hp]; exact Whole.made _ _ _
  have hm4 : ShM w4 w2.heap.size (p :: F) mb 0 nd0 := hm3.keep hf34 (by simp) (fun x hx => by
    rcases List.mem_cons.1 hx with rfl | hx
    · exact .inr (by omega)
    · exact .inl hx)
  have hp0 : w4.cell? ⟨p, 0, none⟩ = some (.map (some mb)) := hp4.cell 0
  have HR0 : Hid (Td9Rel w2 F p mb (recs l) (.int .i64 (0 : Nat)) w4) := Lib.hid ⟨0, nd0, Nat.zero_le _, rfl, Lib.hid rfl, Lib.hid hm4, Lib.hid (hf23.trans hf34 (U := []) (by simp) (by simp)), hp0⟩
  have q2 : ∀ w : World, (Instr.makeMap 71 none).run Tryz.prog w = .ok (.map (some w.heap.size)) (w.alloc (.map #[] 0)) := by intro w; kernel_rfl
  have HW3 := Lib.hid hw3
  have HW4 := Lib.hid hw4
  have HMB := Lib.hid hmb
  have HP := Lib.hid hp
  have HPF : Hid ((∀ x ∈ p :: F, x < w4.heap.size) ∧ w2.heap.size ≤ p) := Lib.hid ⟨fun x hx => by
    rcases List.mem_cons.1 hx with rfl | hx
    · exact hp4.lt
    · have := hFl2 x hx; have := hf23.size; have := hf34.size; omega, by have := hf23.size; omega⟩
  clear hw3 hw4 hmb hp hm3 hm4 hf34 hf23 hp4 hp0 hFl2 hn
  have hn63 : n ≤ 2097152 := by have h1 := HRL.out; have h2 := HN.out; have h3 := HLL0.out; omega
  go_wp2
  rw [← HMB.out, ← HW3.out, ← HW4.out, show mb + 1 = p by rw [HP.out, HW3.out, HMB.out]; simp]
  go_loopw [25] (fun s25 wr => Td9Rel w2 F p mb (recs l) s25 wr) (fun s25 _ => n - (intOf s25).toNat)
  case atStart => exact HR0.out
  case round =>
    clear HR0
    obtain ⟨k, S, hk, rfl, HRP, HM, HFR, hpc⟩ := hrel
    by_cases hlt : k < n
    · have hkL : k < (recs l).length := by have := HN.out; omega
      obtain ⟨b, off, rfl, ai, ci, p0, hby, _, hnl⟩ := (HLL.out.keep (F' := []) HFR.out (by simp) (by simp)).at hkL
      have hfit := HFI.out ((recs l).getD k []) (by simp [hkL])
      have hdrop : (recs l).drop k = (recs l).getD k [] :: (recs l).drop (k + 1) := by
        rw [List.drop_eq_getElem_cons hkL]; simp [hkL]
      obtain ⟨rb, hrb⟩ : ∃ rb, rb = (recs l).getD k [] := ⟨_, rfl⟩
      rw [← hrb] at p0 hby hfit hdrop
      have hlow : ∀ y ∈ p :: F, y < wr.heap.size := fun y hy => by
        rcases List.mem_cons.1 hy with rfl | hy
        · exact block_lt_of_cell hpc
        · exact Nat.lt_of_lt_of_le (HFL.out y hy) (Nat.le_trans HF02.out.size HFR.out.size)
      have HRE := Lib.hid (say_any (F := p :: F) ai rb.length ci rb HM.out hpc hlow (by simp) (by omega) hby rfl hnl hfit.1)
      have HDR : Hid (∀ o, say1 S rb = o → sayAll nd0 (recs l) = o.bind fun S' => sayAll S' ((recs l).drop (k + 1))) := Lib.hid fun o ho => by
        rw [HRP.out, hdrop]
        show (say1 S rb).bind _ = _
        rw [ho]
      obtain ⟨rn, hrn⟩ : ∃ rn, rn = rb.length := ⟨_, rfl⟩
      rw [← hrn] at p0 HRE
      have HPC := Lib.hid hpc
      clear hkL hby hnl hfit hdrop hrb hrn hlow hpc
      go_wp2_with fail
      (with_reducible refine HRE.out.mono ?_)
      rintro e w5 (⟨S', T, hr1, rfl, hm5, hf5, hT5⟩ | ⟨hr1, m, T, hm0, rfl, hf5, hT5⟩)
      · have HREL : Hid (Td9Rel w2 F p mb (recs l) (.int .i64 ((k + 1 : Nat) : Nat)) w5) := Lib.hid ⟨k + 1, S', by have := HN.out; omega, rfl, Lib.hid (by rw [HDR.out _ hr1]; rfl), Lib.hid hm5, Lib.hid (HFR.out.trans hf5 (by simp) (fun y hy => .inr (hT5 y hy).2)), (hf5.cell (p := ⟨p, 0, none⟩) (block_lt_of_cell HPC.out) (fun hm => (hT5 _ hm).1 (by simp))).trans HPC.out⟩
        clear hr1 hm5 hf5 hT5 HRE
        go_wp2
        go_roundw
        case rel => exact HREL.out
        case measure => simp [intOf]; omega
      · have hne : ((m : Int) != 0) = true := by rw [bne_iff_ne]; omega
        have HE : Hid (Q (.returned (.tuple #[.map none, .int .i64 23])) w5) := Lib.hid (by
          rw [HQ.out]
          exact .inr ⟨by rw [HDR.out _ hr1]; rfl, rfl, (HF02.out.trans HFR.out (U := []) (by simp) (by simp)).trans hf5 (by simp) (fun y hy => by have := (hT5 y hy).2; have := HF02.out.size; right; have := HFR.out.size; omega)⟩)
        clear hr1 hf5 hT5 hm0 HRE
        go_wp2
        exact HE.out
    · obtain rfl : k = n := by have := HN.out; omega
      have HE : Hid (Q (.returned (.tuple #[.map (some mb), .int .i64 0])) wr) := Lib.hid (by
        rw [HQ.out]
        refine .inl ⟨S, mb, by rw [HRP.out, HN.out, List.drop_length]; rfl, rfl, ?_, HF02.out.trans HFR.out (U := []) (by simp) (by simp)⟩
        rw [← HN.out]
        exact (HM.out.keep (T := []) (Frm.refl _ _) (by simp) (fun y hy => .inl (by simp [hy]))).low HF02.out.size)
      go_wp2
      exact HE.out
theorem told9_any {w : World} {B p : Nat} {Fd l : List Nat} {s room : Nat} (F : List Nat) (h : Dk w B p Fd l s room) (hF : ∀ x ∈ F, x < w.heap.size) :
    Calls Tryz.prog 21 #[.pointer (some ⟨p, 0, none⟩)] w (Told9End w F l) :=
  told9_core F _ h.1.1 (fun _ hz => twin9_any (h.keep hz (by simp))) hF (by have := h.1.2.2; omega)

end Go.Proofs.YtamcandcfainfaaGreat
/- Contracts of the shelf's records: whole, addition. -/
namespace Go.Proofs.YtamcandcfainfaaGreat
open Go.RowKit
set_option maxRecDepth 100000

theorem recW_len (k i : Nat) : (recW k i).length = 9 := by unfold recW; simp [be_length]
theorem recA_len (i e s : Nat) (d : List Nat) : (recA i e s d).length = 29 + d.length := by unfold recA cB; simp [be_length]; omega

set_option maxHeartbeats 2000000 in
theorem whole_any (w : World) (k i : Nat) (hk : k < 256) (hi : i < N64) :
    Calls Tryz.prog 45 #[.int .u8 (k : Nat), .int .u64 (i : Nat)] w fun e w' => Own w w' (recW k i) e ∧ ∀ x ∈ recW k i, x < 256 := by
  obtain ⟨w1, hw1⟩ : ∃ w1, w1 = w.alloc (.cells #[.pointer none, .int .i64 0] 128) := ⟨_, rfl⟩
  obtain ⟨q, hq⟩ : ∃ q, q = w.heap.size := ⟨_, rfl⟩
  have hf1 : Frm [] w w1 := by rw [hw1]; exact (Frm.refl _ _).alloc _
  have hWr : Wr w1 w.heap.size q [q] [] := ⟨by simp, by omega, .inl ⟨rfl, rfl, by rw [hw1, hq]; exact Whole.made _ _ _⟩⟩
  have HW1 := Lib.hid hw1
  have HQ := Lib.hid hq
  have HF1 := Lib.hid hf1
  have HU1 := Lib.hid (u8_any k hWr hk (by simp))
  clear hw1 hf1 hWr hq
  go_enter Tryz.func45, Tryz.ntmps45
  go_wp2_with fail
  rw [← HW1.out, ← HQ.out]
  (with_reducible refine HU1.out.mono ?_)
  rintro e w2 ⟨rfl, hput⟩
  have HP2 := Lib.hid hput
  obtain ⟨F2, hw2, hf2, hx2⟩ := hput
  have HU2 := Lib.hid (u64_any i hw2 hi (by simp [be_length]))
  have HFX := Lib.hid (show Frm [q] w1 w2 ∧ ∀ x ∈ F2, x ∈ [q] ∨ w1.heap.size ≤ x from ⟨hf2, hx2⟩)
  clear hw2 hf2 hx2 HU1
  go_wp2_with fail
  (with_reducible refine HU2.out.mono ?_)
  rintro e w3 ⟨rfl, hput⟩
  have HP3 := Lib.hid (Put.then HFX.out.1 HFX.out.2 hput)
  obtain ⟨F3, hw3, hf3, hx3⟩ := HP3.out
  have HDN := Lib.hid (done_any hw3 (by simp [be_length]))
  have HX3 := Lib.hid (show Frm [q] w1 w3 from hf3)
  have H8 := Lib.hid hw3.1
  clear hw3 hf3 hx3 hput HU2 HP2 HFX
  go_wp2_with fail
  (with_reducible refine HDN.out.mono ?_)
  rintro e w4 ⟨ar, cr, rfl, ho, hf4⟩
  have HE : Hid (Own w w4 (recW k i) (.returned (.slice ar (recW k i).length cr)) ∧ ∀ x ∈ recW k i, x < 256) := Lib.hid (by
    have h1 := H8.out
    rw [show [] ++ (be 1 k ++ be 8 i) = recW k i from rfl] at h1 ho
    have h4 : Frm [] w w3 := HF1.out.trans HX3.out (by simp) (fun x hx => .inr (by simp at hx; have := HQ.out; omega))
    exact ⟨⟨ar, cr, rfl, own_base ho h4.size, h4.trans hf4 (by simp) (by simp)⟩, h1⟩)
  rw [show [] ++ (be 1 k ++ be 8 i) = recW k i from rfl]
  generalize (recW k i).length = nl at HE ⊢
  clear ho hf4 HDN HP3
  go_wp2
  go_ret
  exact HE.out

set_option maxHeartbeats 4000000 in
theorem addition_any (w : World) (i en s : Nat) (a : Option Addr) (len cap : Nat) (d : List Nat) (hi : i < N64) (hen : en < N64) (hs : s < N64) (hb : Bytes w a d) (hlen : len = d.length) (hnil : a = none → cap = 0) (hd : d.length ≤ 4096) :
    Calls Tryz.prog 44 #[.int .u64 (i : Nat), .agg #[.int .u64 (en : Nat), .slice a len cap], .int .u64 (s : Nat)] w fun e w' => Own w w' (recA i en s d) e ∧ ∀ x ∈ recA i en s d, x < 256 := by
  obtain ⟨w0, hw0⟩ : ∃ w0, w0 = w.alloc (.cells #[.int .u64 (en : Nat), .slice a len cap] 57) := ⟨_, rfl⟩
  obtain ⟨g, hg⟩ : ∃ g, g = w.heap.size := ⟨_, rfl⟩
  have hW := Whole.made w 57 #[.int .u64 (en : Nat), .slice a len cap]
  rw [← hw0, ← hg] at hW
  have hf0 : Frm [] w w0 := by rw [hw0]; exact (Frm.refl _ _).alloc _
  obtain ⟨w1, hw1⟩ : ∃ w1, w1 = w0.alloc (.cells #[.pointer none, .int .i64 0] 128) := ⟨_, rfl⟩
  obtain ⟨q, hq⟩ : ∃ q, q = w0.heap.size := ⟨_, rfl⟩
  have hf1 : Frm [] w0 w1 := by rw [hw1]; exact (Frm.refl _ _).alloc _
  have hWr : Wr w1 w0.heap.size q [q] [] := ⟨by simp, by omega, .inl ⟨rfl, rfl, by rw [hw1, hq]; exact Whole.made _ _ _⟩⟩
  have hf01 : Frm [] w w1 := hf0.trans hf1 (by simp) (by simp)
  have hgq : g ≠ q := by have := hW.lt; omega
  have HCE := Lib.hid (fun (z : World) (hz : Frm [q] w1 z) => (show z.cell? ⟨g, 0, none⟩ = some (.int .u64 (en : Nat)) ∧ z.cell? ⟨g, 1, none⟩ = some (.slice a len cap) from by
    have h := hz.whole (hf1.whole hW (by simp)) (by simpa using hgq)
    exact ⟨h.cell 0, h.cell 1⟩))
  have hq2 : w.heap.size ≤ q := by have := hf0.size; omega
  have HB := Lib.hid hb
  have HLEN := Lib.hid hlen
  have HNIL := Lib.hid hnil
  have HD := Lib.hid hd
  have HF01 := Lib.hid hf01
  have HW0 := Lib.hid hw0
  have HW1 := Lib.hid hw1
  have HG := Lib.hid hg
  have HQ2 := Lib.hid hq2
  have e1 : w.heap.size + 1 = q := by rw [hq, hw0]; simp
  have HE1 := Lib.hid e1
  have HU1 := Lib.hid (u8_any 1 hWr (by omega) (by simp))
  rw [show ((1 : Nat) : Int) = 1 from rfl] at HU1
  clear hW hf0 hw0 hw1 hg hq hf1 hf01 hgq hq2 hb hlen hnil hWr hd e1
  go_enter Tryz.func44, Tryz.ntmps44
  go_wp2_with fail
  rw [← HW0.out, ← HW1.out, HE1.out, ← HG.out]
  (with_reducible refine HU1.out.mono ?_)
  rintro e w2 ⟨rfl, hput⟩
  have HP2 := Lib.hid hput
  clear HU1 hput
  obtain ⟨F2, hw2, hf2, hx2⟩ := HP2.out
  have HU := Lib.hid (u64_any i hw2 hi (by simp [be_length]))
  have HFX := Lib.hid (show Frm [q] w1 w2 ∧ ∀ x ∈ F2, x ∈ [q] ∨ w1.heap.size ≤ x from ⟨hf2, hx2⟩)
  clear hw2 hf2 hx2
  go_wp2_with fail
  (with_reducible refine HU.out.mono ?_)
  rintro e w3 ⟨rfl, hput⟩
  have HP3 := Lib.hid (Put.then HFX.out.1 HFX.out.2 hput)
  clear HU hput HFX HP2
  obtain ⟨F3, hw3, hf3, hx3⟩ := HP3.out
  obtain ⟨c0, c1⟩ := HCE.out _ hf3
  have HU := Lib.hid (u64_any en hw3 hen (by simp [be_length]))
  have HFX := Lib.hid (show Frm [q] w1 w3 ∧ ∀ x ∈ F3, x ∈ [q] ∨ w1.heap.size ≤ x from ⟨hf3, hx3⟩)
  clear hw3 hf3 hx3
  go_wp2_with fail
  (with_reducible refine HU.out.mono ?_)
  rintro e w4 ⟨rfl, hput⟩
  have HP4 := Lib.hid (Put.then HFX.out.1 HFX.out.2 hput)
  clear HU hput HFX HP3 c0 c1
  obtain ⟨F4, hw4, hf4, hx4⟩ := HP4.out
  have HU := Lib.hid (u64_any s hw4 hs (by simp [be_length]))
  have HFX := Lib.hid (show Frm [q] w1 w4 ∧ ∀ x ∈ F4, x ∈ [q] ∨ w1.heap.size ≤ x from ⟨hf4, hx4⟩)
  clear hw4 hf4 hx4
  go_wp2_with fail
  (with_reducible refine HU.out.mono ?_)
  rintro e w5 ⟨rfl, hput⟩
  have HP5 := Lib.hid (Put.then HFX.out.1 HFX.out.2 hput)
  clear HU hput HFX HP4
  obtain ⟨F5, hw5, hf5, hx5⟩ := HP5.out
  obtain ⟨c0, c1⟩ := HCE.out _ hf5
  have HU := Lib.hid (bytes_any hw5 ((HF01.out.trans hf5 (U := []) (by simp) (fun x hx => .inr (by simp at hx; subst hx; exact HQ2.out))).bytes' HB.out (by simp)) (fun hne x hx hm => by
    have h1 := bytes_lt HB.out hne x hx
    have h2 := HQ2.out
    have h3 := HF01.out.size
    rcases hx5 _ hm with h | h
    · simp at h; omega
    · omega) HLEN.out HNIL.out (by have := HLEN.out; have := HD.out; omega) (by have := HLEN.out; have := HD.out; simp only [List.length_append, be_length, List.length_nil]; omega))
  have HFX := Lib.hid (show Frm [q] w1 w5 ∧ ∀ x ∈ F5, x ∈ [q] ∨ w1.heap.size ≤ x from ⟨hf5, hx5⟩)
  clear hw5 hf5 hx5
  go_wp2_with fail
  (with_reducible refine HU.out.mono ?_)
  rintro e w6 ⟨rfl, hput⟩
  have HP6 := Lib.hid (Put.then HFX.out.1 HFX.out.2 hput)
  clear HU hput HFX HP5 c0 c1
  obtain ⟨F6, hw6, hf6, hx6⟩ := HP6.out
  have hre : [] ++ (be 1 1 ++ be 8 i ++ be 8 en ++ be 8 s ++ (be 4 len ++ d)) = recA i en s d := by
    unfold recA cB; rw [HLEN.out]; rfl
  rw [hre] at hw6
  have HDN := Lib.hid (done_any hw6 (by rw [recA_len]; have := HD.out; omega))
  have HX6 := Lib.hid (show Frm [q] w1 w6 from hf6)
  have H8 := Lib.hid hw6.1
  clear hw6 hf6 hx6 HP6 hre
  go_wp2_with fail
  (with_reducible refine HDN.out.mono ?_)
  rintro e w7 ⟨ar, cr, rfl, ho, hf7⟩
  have HE : Hid (Own w w7 (recA i en s d) (.returned (.slice ar (recA i en s d).length cr)) ∧ ∀ x ∈ recA i en s d, x < 256) := Lib.hid (by
    have h4 : Frm [] w w6 := HF01.out.trans HX6.out (by simp) (fun x hx => .inr (by simp at hx; subst hx; exact HQ2.out))
    exact ⟨⟨ar, cr, rfl, own_base ho h4.size, h4.trans hf7 (by simp) (by simp)⟩, H8.out⟩)
  generalize (recA i en s d).length = nl at HE ⊢
  clear ho hf7 HDN
  go_wp2
  go_ret
  exact HE.out
end Go.Proofs.YtamcandcfainfaaGreat
/- The shelf in memory (Sp); contract of Open. -/
namespace Go.Proofs.YtamcandcfainfaaGreat
open Go.RowKit
set_option maxRecDepth 100000

theorem dk9_notin {w : World} {g B p : Nat} {F l : List Nat} {s room : Nat} {cs : Array Value} (h : Whole w g 78 cs) (hd : Dk w B p F l s room) : g ∉ F := by
  intro hm
  obtain ⟨_, ⟨_, rfl, hp⟩ | ⟨r, a, cap, hon, rfl⟩⟩ := hd
  · simp at hm
    subst hm
    exact Whole.ne h hp (by decide) rfl
  · simp only [List.mem_cons] at hm
    rcases hm with rfl | rfl | hm
    · exact Whole.ne h hon.disk (by decide) rfl
    · exact Whole.ne h hon.row (by decide) rfl
    · exact hd_ne hon.head h (by decide) hm
/-- A record more on a disk of whole records. -/
theorem recs_more {l b : List Nat} (h8 : ∀ c ∈ l, c < 256) (hl : recN l = l.length) (hb : b.length ≤ 4096) (hb8 : ∀ c ∈ b, c < 256) : recs (l ++ fr b) = recs l ++ [b] ∧ recN (l ++ fr b) = (l ++ fr b).length := by
  obtain ⟨h1, h2, h3, _⟩ := recs_whole l h8
  rw [hl, List.take_length] at h1
  have h4 : l ++ fr b = allF (recs l ++ [b]) := by rw [allF_append, allF_one, ← h1]
  have h5 := recs_all' (recs l ++ [b]) (h2.append (Fit.one hb hb8))
  rw [h4]
  exact h5
theorem recs_cutN {l : List Nat} (h8 : ∀ c ∈ l, c < 256) : recs (l.take (recN l)) = recs l ∧ recN (l.take (recN l)) = (l.take (recN l)).length := by
  obtain ⟨h1, h2, h3, h4⟩ := recs_whole l h8
  have h5 := recs_all' (recs l) h2
  rw [h1]
  exact h5

/-- The node at p, its journal at jq, its disk at dp with the blocks Fd and the bytes l, all sure; nothing of all that lies in the blocks G. -/
structure Sp (w : World) (B : Nat) (G : List Nat) (p jq dp : Nat) (Fd : List Nat) (S : Nd9) (l : List Nat) (room : Nat) : Prop where
  box : ∃ mb, Whole w p 78 #[.map (some mb), .pointer (some ⟨jq, 0, none⟩)] ∧ ShM w B (p :: jq :: (Fd ++ G)) mb l.length S
  jn : Jn w jq dp
  dk : Dk w B dp Fd l l.length room
  out : ∀ x ∈ p :: jq :: Fd, x ∉ G ∧ B ≤ x
  says : recN l = l.length ∧ sayAll nd0 (recs l) = some S
section
variable {w w' : World} {B p jq dp : Nat} {G G' T Fd : List Nat} {S : Nd9} {l : List Nat} {room : Nat}
theorem Sp.plt (h : Sp w B G p jq dp Fd S l room) : ∀ x ∈ p :: jq :: Fd, x < w.heap.size := by
  intro x hx
  obtain ⟨mb, hk, _⟩ := h.box
  simp only [List.mem_cons] at hx
  rcases hx with rfl | rfl | hx
  · exact hk.lt
  · exact Whole.lt h.jn
  · exact (h.dk.lt x hx).2
theorem Sp.ne (h : Sp w B G p jq dp Fd S l room) : p ≠ jq ∧ p ∉ Fd ∧ jq ∉ Fd := by
  obtain ⟨mb, hk, _⟩ := h.box
  exact ⟨Whole.ne hk h.jn (by decide), dk9_notin hk h.dk, h.jn.notin h.dk⟩
theorem Sp.keep (h : Sp w B G p jq dp Fd S l room) (hf : Frm T w w') (hT : ∀ x ∈ T, x ∈ G ∨ w.heap.size ≤ x) (hG : ∀ x ∈ G', x ∈ G ∨ w.heap.size ≤ x) : Sp w' B G' p jq dp Fd S l room := by
  have hk0 := h.plt
  have nT : ∀ x ∈ p :: jq :: Fd, x ∉ T := fun x hx hm => by
    rcases hT x hm with h1 | h1
    · exact (h.out x hx).1 h1
    · have := hk0 x hx; omega
  obtain ⟨mb, hk, hd⟩ := h.box
  refine ⟨⟨mb, hf.whole hk (nT _ (by simp)), hd.keep hf (fun x hx => ?_) (fun x hx => ?_)⟩, h.jn.keep hf (nT _ (by simp)), h.dk.keep hf (fun x hx => nT x (by simp [hx])), fun x hx => ⟨fun hm => ?_, (h.out x hx).2⟩, h.says⟩
  · rcases hT x hx with h1 | h1
    · exact .inl (by simp [h1])
    · exact .inr h1
  · simp only [List.mem_cons, List.mem_append] at hx
    rcases hx with rfl | rfl | hx | hx
    · exact .inl (by simp)
    · exact .inl (by simp)
    · exact .inl (by simp [hx])
    · rcases hG x hx with h1 | h1
      · exact .inl (by simp [h1])
      · exact .inr h1
  · rcases hG x hm with h1 | h1
    · exact (h.out x hx).1 h1
    · have := hk0 x hx; omega
theorem Sp.here (h : Sp w B G p jq dp Fd S l room) (hf : Frm [] w w') : Sp w' B G p jq dp Fd S l room := h.keep hf (by simp) (fun x hx => .inl hx)
end

/-- What Open answers and leaves. -/
def SOpenEnd (w : World) (B : Nat) (G : List Nat) (dp : Nat) (Fd l : List Nat) (room : Nat) (e : Ending) (w' : World) : Prop :=
  (∃ S p jq Fd', sayAll nd0 (recs l) = some S ∧ e = .returned (.tuple #[.pointer (some ⟨p, 0, none⟩), .int .i64 0]) ∧ Sp w' B G p jq dp Fd' S (l.take (recN l)) room ∧ Frm Fd w w' ∧ (∀ x ∈ p :: jq :: Fd', x ∈ Fd ∨ w.heap.size ≤ x) ∧ w.heap.size ≤ p) ∨
  (sayAll nd0 (recs l) = none ∧ e = .returned (.tuple #[.pointer none, .int .i64 23]) ∧ Frm [] w w')

set_option maxHeartbeats 4000000 in
theorem sopen_any {w : World} {B dp : Nat} {Fd l : List Nat} {s room : Nat} (G : List Nat) (h : Dk w B dp Fd l s room) (hG : ∀ x ∈ G, x < w.heap.size) (hGF : ∀ x ∈ Fd, x ∉ G) :
    Calls Tryz.prog 7 #[.pointer (some ⟨dp, 0, none⟩)] w (SOpenEnd w B G dp Fd l room) := by
  have HT := Lib.hid (told9_any (Fd ++ G) h (fun x hx => by
    rcases List.mem_append.1 hx with h1 | h1
    · exact (h.lt x h1).2
    · exact hG x h1))
  have hw := recs_whole l h.1.1
  have HRN : Hid ((l.take (recN l)).length = recN l ∧ (recs l).length ≤ recN l) := Lib.hid ⟨by rw [List.length_take]; exact Nat.min_eq_left hw.2.2.2, by have := allF_ge (recs l); have := hw.2.2.1; omega⟩
  have HRC := Lib.hid (recs_cutN h.1.1)
  have hBw : B ≤ w.heap.size := by have h1 := h.1.2.1; have h2 := (h.lt dp (by obtain ⟨_, ⟨_, rfl, _⟩ | ⟨r, a, cap, _, rfl⟩⟩ := h <;> simp)).2; omega
  have H := Lib.hid h
  have HGL := Lib.hid hG
  have HGF := Lib.hid hGF
  obtain ⟨Q, hQ⟩ : ∃ Q, Q = SOpenEnd w B G dp Fd l room := ⟨_, rfl⟩
  have HQ := Lib.hid hQ
  rw [← hQ]
  clear h hG hGF hw hQ
  go_enter Tryz.func7, Tryz.ntmps7
  go_wp2_with fail
  (with_reducible refine HT.out.mono ?_)
  rintro e w1 (⟨S, mb, hrs, rfl, hkd, hf1⟩ | ⟨hrs, rfl, hf1⟩)
  · have HJ := Lib.hid (jopen_any (H.out.keep hf1 (by simp)))
    have HF1 := Lib.hid hf1
    have HKD := Lib.hid hkd
    have HRS := Lib.hid hrs
    clear hf1 hkd hrs HT
    go_wp2_with fail
    (with_reducible refine HJ.out.mono ?_)
    rintro e w3 ⟨jq, Fd', a, cap, vs, rfl, hop⟩
    obtain ⟨w4, hw4⟩ : ∃ w4, w4 = w3.alloc (.cells #[.map (some mb), .pointer (some ⟨jq, 0, none⟩)] 78) := ⟨_, rfl⟩
    obtain ⟨k, hk⟩ : ∃ k, k = w3.heap.size := ⟨_, rfl⟩
    have hK := Whole.made w3 78 #[.map (some mb), .pointer (some ⟨jq, 0, none⟩)]
    rw [← hw4, ← hk] at hK
    have hf34 : Frm [] w3 w4 := by rw [hw4]; exact (Frm.refl _ _).alloc _
    have hf14 : Frm Fd w1 w4 := hop.frm.trans hf34 (fun y hy => hy) (by simp)
    have HE : Hid (Q (.returned (.tuple #[.pointer (some ⟨k, 0, none⟩), .int .i64 0])) w4) := Lib.hid (by
      have s1 := HF1.out.size
      have s3 := hop.frm.size
      have s4 := hop.qlt
      have hnew : ∀ y ∈ k :: jq :: Fd', y ∈ Fd ∨ w1.heap.size ≤ y := fun y hy => by
        simp only [List.mem_cons] at hy
        rcases hy with rfl | rfl | hy
        · right; omega
        · right; omega
        · exact hop.new y hy
      rw [HQ.out]
      refine .inl ⟨S, k, jq, Fd', HRS.out, rfl, ⟨⟨mb, hK, ?_⟩, hop.jn.keep hf34 (by simp), ?_, fun y hy => ?_, HRC.out.2, by rw [HRC.out.1]; exact HRS.out⟩, HF1.out.trans hf14 (by simp) (fun y hy => .inl hy), fun y hy => ?_, by omega⟩
      · refine ((HKD.out.keep (F' := k :: jq :: (Fd' ++ G)) hf14 (fun y hy => .inl (by simp [hy])) (fun y hy => ?_)).low hBw).mono ?_
        · by_cases hyG : y ∈ G
          · exact .inl (by simp [hyG])
          · have hy2 : y ∈ k :: jq :: Fd' := by
              simp only [List.mem_cons, List.mem_append] at hy ⊢
              rcases hy with h1 | h1 | h1 | h1
              · exact .inl h1
              · exact .inr (.inl h1)
              · exact .inr (.inr h1)
              · exact absurd h1 hyG
            rcases hnew y hy2 with h1 | h1
            · exact .inl (by simp [h1])
            · exact .inr h1
        · have h1 := HRN.out.1; have h2 := HRN.out.2; omega
      · rw [HRN.out.1]
        exact hop.dk.keep hf34 (by simp)
      · rcases hnew y hy with h1 | h1
        · exact ⟨HGF.out y h1, (H.out.lt y h1).1⟩
        · exact ⟨fun hm => by have h2 := HGL.out y hm; omega, by omega⟩
      · rcases hnew y hy with h1 | h1
        · exact .inl h1
        · right; omega)
    have HW4 := Lib.hid hw4
    have HKE := Lib.hid hk
    clear hop hw4 hk hK hf34 hf14 HJ
    go_wp2
    rw [← HW4.out, ← HKE.out]
    exact HE.out
  · have HE : Hid (Q (.returned (.tuple #[.pointer none, .int .i64 23])) w1) := Lib.hid (by rw [HQ.out]; exact .inr ⟨hrs, rfl, hf1⟩)
    clear hrs hf1 HT
    go_wp2
    exact HE.out

theorem sopen_new {w : World} {B dp room : Nat} (G : List Nat) (h : Dk w B dp [dp] [] 0 room) (hG : ∀ x ∈ G, x < w.heap.size) (hGF : dp ∉ G) :
    Calls Tryz.prog 7 #[.pointer (some ⟨dp, 0, none⟩)] w fun e w' => ∃ p jq Fd, e = .returned (.tuple #[.pointer (some ⟨p, 0, none⟩), .int .i64 0]) ∧ Sp w' B G p jq dp Fd nd0 [] room ∧ Frm [dp] w w' ∧ (∀ x ∈ p :: jq :: Fd, x = dp ∨ w.heap.size ≤ x) ∧ w.heap.size ≤ p := by
  refine (sopen_any G h hG (by simpa using hGF)).mono ?_
  rintro e w' (⟨S, k, jq, Fd, hr, he, hk, hf, hx, hkw⟩ | ⟨hr, _⟩)
  · rw [recs_nil.1] at hr
    cases hr
    refine ⟨k, jq, Fd, he, by simpa using hk, hf, fun x h => ?_, hkw⟩
    rcases hx x h with h1 | h1
    · exact .inl (by simpa using h1)
    · exact .inr h1
  · rw [recs_nil.1] at hr
    cases hr
end Go.Proofs.YtamcandcfainfaaGreat
/- Contract of the shelf's write. -/
namespace Go.Proofs.YtamcandcfainfaaGreat
open Go.RowKit
set_option maxRecDepth 100000

/-- The node behind a record. -/
def swS (S : Nd9) (l b : List Nat) (room i : Nat) (x : Lg) : Nd9 := if jc l b room = 0 then updS S i x else S
/-- What write answers and leaves. -/
def SwEnd (w : World) (B : Nat) (G : List Nat) (p jq dp : Nat) (Fd : List Nat) (S : Nd9) (l b : List Nat) (room i : Nat) (x : Lg) (e : Ending) (w' : World) : Prop :=
  ∃ Fd' T, e = .returned (.int .i64 (jc l b room : Nat)) ∧ Sp w' B G p jq dp Fd' (swS S l b room i x) (jl l b room) room ∧ Frm T w w' ∧ (∀ y ∈ T, y ∉ G ∧ B ≤ y) ∧ (∀ y ∈ Fd', y ∈ Fd ∨ w.heap.size ≤ y)

set_option maxHeartbeats 4000000 in
theorem swrite_any {w : World} {B p jq dp : Nat} {G Fd : List Nat} {S : Nd9} {l : List Nat} {room i : Nat} {x : Lg} (a : Option Addr) (len cap : Nat) (b : List Nat) (h : Sp w B G p jq dp Fd S l room) (hG : ∀ y ∈ G, y < w.heap.size) (hb : Bytes w a b) (hlen : len = b.length) (hap : b ≠ [] → ∀ y, a = some y → y.block ∉ Fd) (hnil : a = none → cap = 0) (hfit : b.length ≤ 4096)
    (hpre : shPre S b = some (i, x, [])) :
    Calls Tryz.prog 43 #[.pointer (some ⟨p, 0, none⟩), .slice a len cap] w (SwEnd w B G p jq dp Fd S l b room i x) := by
  have HJ := Lib.hid (jwrite_any a len cap b h.dk h.jn hb hlen hnil)
  obtain ⟨mb, hbox, hsh⟩ := h.box
  have c1 := hbox.cell 1
  simp at c1
  have H := Lib.hid h
  have HG := Lib.hid hG
  have HB := Lib.hid hb
  have HLEN := Lib.hid hlen
  have HAP := Lib.hid hap
  have HNIL := Lib.hid hnil
  have HFIT := Lib.hid hfit
  have HPRE := Lib.hid hpre
  have HBOX := Lib.hid hbox
  have HSH := Lib.hid hsh
  have hroom : l.length ≤ room ∧ room ≤ 16777216 := ⟨h.dk.1.2.2.2.1, by have := h.dk.1.2.2; omega⟩
  obtain ⟨Q, hQ⟩ : ∃ Q, Q = SwEnd w B G p jq dp Fd S l b room i x := ⟨_, rfl⟩
  have HQ := Lib.hid hQ
  rw [← hQ]
  obtain ⟨jv, hjv⟩ : ∃ jv, jv = jc l b room := ⟨_, rfl⟩
  have HJV := Lib.hid hjv
  have HBp : Hid (∀ y ∈ Fd, y ∉ G ∧ B ≤ y) := Lib.hid fun y hy => h.out y (by simp [hy])
  clear h hG hb hlen hap hnil hfit hpre hbox hsh hQ hjv
  go_enter Tryz.func43, Tryz.ntmps43
  go_wp2_with fail
  (with_reducible refine HJ.out.mono ?_)
  rintro e w1 ⟨rfl, Fd1, hd1, hf1, hx1⟩
  rw [← HJV.out]
  have HF1 := Lib.hid hf1
  have HX1 := Lib.hid hx1
  have HD1 := Lib.hid hd1
  have hb1 := hf1.whole HBOX.out H.out.ne.2.1
  have hj1 := H.out.jn.keep hf1 H.out.ne.2.2
  have hnew : ∀ y ∈ p :: jq :: (Fd1 ++ G), y ∈ p :: jq :: (Fd ++ G) ∨ w.heap.size ≤ y := fun y hy => by
    simp only [List.mem_cons, List.mem_append] at hy ⊢
    rcases hy with h1 | h1 | h1 | h1
    · exact .inl (.inl h1)
    · exact .inl (.inr (.inl h1))
    · rcases hx1 y h1 with h2 | h2
      · exact .inl (.inr (.inr (.inl h2)))
      · exact .inr h2
    · exact .inl (.inr (.inr (.inr h1)))
  have hs1 : ShM w1 B (p :: jq :: (Fd1 ++ G)) mb l.length S := HSH.out.keep hf1 (fun y hy => .inl (by simp [hy])) hnew
  have HOUT : Hid (∀ y ∈ p :: jq :: Fd1, y ∉ G ∧ B ≤ y) := Lib.hid fun y hy => by
    have h0 := H.out.out
    have hBw : B ≤ w.heap.size := by have h1 := (h0 p (by simp)).2; have h2 := H.out.plt p (by simp); omega
    simp only [List.mem_cons] at hy
    rcases hy with h1 | h1 | h1
    · exact h0 y (by simp [h1])
    · exact h0 y (by simp [h1])
    · rcases hx1 y h1 with h2 | h2
      · exact h0 y (by simp [h2])
      · exact ⟨fun hm => by have := HG.out y hm; omega, by omega⟩
  have HB1 := Lib.hid hb1
  have HJ1 := Lib.hid hj1
  have HS1 := Lib.hid hs1
  clear hf1 hx1 hd1 hb1 hj1 hs1 hnew c1
  by_cases hz : jv = 0
  · subst hz
    have hjl : jl l b room = l ++ fr b := by unfold jl; rw [← HJV.out]; rfl
    have hjs : js l b l.length room = (l ++ fr b).length := by unfold js; rw [← HJV.out]; rfl
    have hfr8 : ∀ c ∈ b, c < 256 := HB.out.1
    have hlow : ∀ y ∈ p :: jq :: (Fd1 ++ G), y < w1.heap.size := fun y hy => by
      simp only [List.mem_cons, List.mem_append] at hy
      rcases hy with h1 | h1 | h1 | h1
      · rw [h1]; exact HB1.out.lt
      · rw [h1]; exact Whole.lt HJ1.out
      · exact (HD1.out.lt y h1).2
      · exact Nat.lt_of_lt_of_le (HG.out y h1) HF1.out.size
    have HSAY := Lib.hid (say_any (F := p :: jq :: (Fd1 ++ G)) a len cap b HS1.out (HB1.out.cell 0) hlow (by simp) (by omega) (HF1.out.bytes' HB.out HAP.out) HLEN.out HNIL.out HFIT.out)
    have HJL := Lib.hid (show jl l b room = l ++ fr b ∧ js l b l.length room = (l ++ fr b).length from ⟨hjl, hjs⟩)
    clear hjl hjs hfr8 hlow
    go_wp2_with fail
    (with_reducible refine HSAY.out.mono ?_)
    rintro e w2 (⟨S', T, hs, rfl, hm, hf2, hT⟩ | ⟨hs, _⟩)
    · have HE : Hid (Q (.returned (.int .i64 0)) w2) := Lib.hid (by
        rw [HQ.out]
        have hse : S' = updS S i x := by rw [say_pre_some HPRE.out, if_pos rfl] at hs; cases hs; rfl
        have hnT : ∀ y ∈ p :: jq :: Fd1, y ∉ T := fun y hy hmT => (hT y hmT).1 (by
          simp only [List.mem_cons, List.mem_append] at hy ⊢
          rcases hy with h1 | h1 | h1
          · exact .inl h1
          · exact .inr (.inl h1)
          · exact .inr (.inr (.inl h1)))
        have hd1 := HD1.out
        rw [HJL.out.1, HJL.out.2] at hd1
        have hrm := recs_more H.out.dk.1.1 H.out.says.1 HFIT.out HB.out.1
        refine ⟨Fd1, Fd ++ T, by rw [← HJV.out]; rfl, ⟨⟨mb, hf2.whole HB1.out (hnT _ (by simp)), ?_⟩, HJ1.out.keep hf2 (hnT _ (by simp)), ?_, HOUT.out, ?_⟩, ?_, fun y hy => ?_, HX1.out⟩
        · unfold swS
          rw [if_pos HJV.out.symm, ← hse, HJL.out.1]
          exact hm.mono (by rw [List.length_append, fr_length]; omega)
        · rw [HJL.out.1]
          exact hd1.keep hf2 (fun y hy => hnT y (by simp [hy]))
        · rw [HJL.out.1, hrm.1, sayAll_snoc, H.out.says.2]
          refine ⟨hrm.2, ?_⟩
          show say1 S b = _
          rw [hs, hse]
          unfold swS
          rw [if_pos HJV.out.symm]
        · exact HF1.out.trans hf2 (fun y hy => List.mem_append_left _ hy) (fun y hy => .inl (List.mem_append_right _ hy))
        · rcases List.mem_append.1 hy with h1 | h1
          · exact HBp.out y h1
          · exact ⟨fun hm => (hT y h1).1 (by simp [hm]), (hT y h1).2⟩)
      clear hs hm hf2 hT HSAY
      go_wp2
      exact HE.out
    · rw [say_pre_some HPRE.out, if_pos rfl] at hs; cases hs
  · have hne : ((jv : Int) != 0) = true := by rw [bne_iff_ne]; omega
    have HE : Hid (Q (.returned (.int .i64 (jv : Nat))) w1) := Lib.hid (by
      have h0 : ¬ jc l b room = 0 := by rw [← HJV.out]; exact hz
      have hjl : jl l b room = l := by unfold jl; rw [if_neg h0]
      have hjs : js l b l.length room = l.length := by unfold js; rw [if_neg h0]
      have hd1 := HD1.out
      rw [hjl, hjs] at hd1
      rw [HQ.out]
      refine ⟨Fd1, Fd, by rw [← HJV.out], ⟨⟨mb, HB1.out, ?_⟩, HJ1.out, ?_, HOUT.out, ?_⟩, HF1.out, HBp.out, HX1.out⟩
      · unfold swS; rw [if_neg h0, hjl]; exact HS1.out
      · rw [hjl]; exact hd1
      · unfold swS; rw [if_neg h0, hjl]; exact H.out.says)
    go_wp2
    exact HE.out
end Go.Proofs.YtamcandcfainfaaGreat
/- Contract of bytes.Equal. -/
namespace Go.Proofs.YtamcandcfainfaaGreat
open Go.RowKit
set_option maxRecDepth 100000

theorem bequal_any (a : Option Addr) (n c : Nat) (l : List Nat) (a' : Option Addr) (n' c' : Nat) (m : List Nat) (w : World) (hl : Bytes w a l) (hn : n = l.length) (hm : Bytes w a' m) (hn' : n' = m.length) :
    Calls Tryz.prog 42 #[.slice a n c, .slice a' n' c'] w fun e w' => e = .returned (.bool (decide (l = m))) ∧ w = w' := by
  have c1 : (convert 35 9 (.slice a n c)).run Tryz.prog w = .ok (.string (strOf l)) w := run_to_string (P := Tryz.prog) (e := 5) Tryz.underlying35 Tryz.underlying5 Tryz.underlying9 hl hn
  have c2 : (convert 35 9 (.slice a' n' c')).run Tryz.prog w = .ok (.string (strOf m)) w := run_to_string (P := Tryz.prog) (e := 5) Tryz.underlying35 Tryz.underlying5 Tryz.underlying9 hm hn'
  have HB : Hid (∀ b : Bool, (b = true ↔ strOf l = strOf m) → b = decide (l = m)) := Lib.hid fun b hb => by
    by_cases h : l = m
    · rw [decide_eq_true h]; exact hb.2 (by rw [h])
    · rw [decide_eq_false h]
      cases b
      · rfl
      · exact absurd (strOf_inj hl.1 hm.1 (hb.1 rfl)) h
  clear hl hm hn hn'
  generalize decide (l = m) = r at HB ⊢
  generalize strOf l = s at c1 HB
  generalize strOf m = t at c2 HB
  go_enter Tryz.func42, Tryz.ntmps42
  go_wp2
  go_ret
  have hb : (s.toList == t.toList) = true ↔ s = t := by
    refine ⟨fun h => ByteArray.ext (Array.toList_inj.1 (by have := eq_of_beq h; rwa [ByteArray.toList_eq, ByteArray.toList_eq] at this)), fun h => by rw [h]; exact beq_self_eq_true _⟩
  have hr := HB.out _ hb
  rw [← hr]
  exact ⟨rfl, rfl⟩
end Go.Proofs.YtamcandcfainfaaGreat
/- Contracts of the shelf's About, Read, Drop, Fence. -/
namespace Go.Proofs.YtamcandcfainfaaGreat
open Go.RowKit
set_option maxRecDepth 100000

/-- A ledger's stock. -/
structure Stk (w : World) (F : List Nat) (p jq mb n : Nat) (f : Nat → Option Value) (i : Nat) (o : Option Nat) (fe : Nat → Option Value) (l : Lg) : Prop where
  box : Whole w p 78 #[.map (some mb), .pointer (some ⟨jq, 0, none⟩)]
  map : MapV Tryz.prog K64 w mb n f
  at' : (f i).getD (stoV (.map none) {}) = .agg #[.map o, .int .u64 (l.sure : Nat), .bool l.fen, .bool l.gone]
  ents : MapVal Tryz.prog K64 w (.map o) n fe
  ent : ∀ k, k < N64 → EntV w F (fe k) (lookE l.ents k)
  rise : RiseE l.ents
  keys : ∀ x ∈ l.ents, x.1 < N64
  few : l.ents.length ≤ n
  sure : l.sure < N64
theorem Sp.stock {w : World} {B p jq dp : Nat} {G Fd : List Nat} {S : Nd9} {l : List Nat} {room : Nat} (h : Sp w B G p jq dp Fd S l room) {i : Nat} (hi : i < N64) :
    ∃ mb f o fe, Stk w (p :: jq :: (Fd ++ G)) p jq mb l.length f i o fe (S i) := by
  obtain ⟨mb, hb, hs⟩ := h.box
  obtain ⟨f, g, hm, hfg, hst, _⟩ := hs.map
  obtain ⟨fe, he, hent⟩ := (hst i hi).map
  obtain ⟨o, ho⟩ : ∃ o, g i = Value.map o := by
    rcases he with ⟨h3, _⟩ | ⟨c, h3, _⟩
    · exact ⟨none, h3⟩
    · exact ⟨some c, h3⟩
  refine ⟨mb, f, o, fe, hb, hm, ?_, by rw [← ho]; exact he, hent, (hst i hi).rise, (hst i hi).keys, (hst i hi).few, (hst i hi).sure⟩
  rcases hfg i hi with ⟨h1, h2, h3⟩ | h1
  · rw [h1, ← ho, h2, h3]; rfl
  · rw [h1, ho]; rfl

theorem fld0 (a b c d : Value) (w : World) : (Instr.field 99 (.agg #[a, b, c, d]) 0).run Tryz.prog w = .ok a w := by kernel_rfl
theorem fld3 (a b c d : Value) (w : World) : (Instr.field 99 (.agg #[a, b, c, d]) 3).run Tryz.prog w = .ok d w := by kernel_rfl
/-- What is answered of a stock's entry: its slice. -/
theorem EntV.slice {w : World} {F : List Nat} {o : Option Value} {e : Option (List Nat)} (h : EntV w F o e) : ∃ a n cap, o.getD (.slice none 0 0) = .slice a n cap ∧ n = (e.getD []).length ∧ Bytes w a (e.getD []) ∧ (a = none → cap = 0) ∧ o.isSome = e.isSome := by
  rcases h with ⟨rfl, rfl⟩ | ⟨a, cap, d, rfl, rfl, hb, _, hn⟩
  · exact ⟨none, 0, 0, rfl, rfl, Bytes.nil _, fun _ => rfl, rfl⟩
  · exact ⟨a, d.length, cap, rfl, rfl, hb, hn, rfl⟩

set_option maxHeartbeats 2000000 in
theorem sabout_any {w : World} {B p jq dp : Nat} {G Fd : List Nat} {S : Nd9} {l : List Nat} {room : Nat} (i : Nat) (hi : i < N64) (h : Sp w B G p jq dp Fd S l room) :
    Calls Tryz.prog 25 #[.pointer (some ⟨p, 0, none⟩), .int .u64 (i : Nat)] w fun e w' => e = .returned (.tuple #[.bool (S i).fen, .bool (S i).gone, .int .u64 ((S i).sure : Nat)]) ∧ Frm [] w w' := by
  obtain ⟨mb, f, o, fe, hs⟩ := h.stock hi
  obtain ⟨x, hx⟩ : ∃ x, x = S i := ⟨_, rfl⟩
  rw [← hx] at hs ⊢
  obtain ⟨n, hn⟩ : ∃ n, n = l.length := ⟨_, rfl⟩
  rw [← hn] at hs
  have c0 := hs.box.cell 0
  simp at c0
  have HS := Lib.hid hs
  clear h hx hn hs
  go_enter Tryz.func25, Tryz.ntmps25
  go_wp2_with (refine wpList_lookV _ rfl (.tmp 13) (.tmp 14) 71 99 rfl key64 Tryz.underlying71 (zeroSto _) n f (.inr ⟨mb, rfl, HS.out.map⟩) i hi rfl ?_; rw [HS.out.at'])
  go_quiet (fail)
  go_wp2
  go_ret3
  exact ⟨rfl, ((Frm.refl [] w).alloc _).drewN _⟩

set_option maxHeartbeats 2000000 in
theorem sread_any {w : World} {B p jq dp : Nat} {G Fd : List Nat} {S : Nd9} {l : List Nat} {room : Nat} (i k : Nat) (hi : i < N64) (hk : k < N64) (h : Sp w B G p jq dp Fd S l room) (hfit : ∀ d, lookE (S i).ents k = some d → d.length ≤ 140737488355328) :
    Calls Tryz.prog 20 #[.pointer (some ⟨p, 0, none⟩), .int .u64 (i : Nat), .int .u64 (k : Nat)] w fun e w' => ∃ a n c, e = .returned (.tuple #[.slice a n c, .bool (lookE (S i).ents k).isSome]) ∧ n = ((lookE (S i).ents k).getD []).length ∧ w'.ownsRow w.heap.size 5 1 (.slice a n c) n (((lookE (S i).ents k).getD []).map u8v) ∧ (∀ c ∈ (lookE (S i).ents k).getD [], c < 256) ∧ Frm [] w w' := by
  obtain ⟨mb, f, o, fe, hs⟩ := h.stock hi
  obtain ⟨x, hx⟩ : ∃ x, x = S i := ⟨_, rfl⟩
  rw [← hx] at hs hfit ⊢
  obtain ⟨n, hn⟩ : ∃ n, n = l.length := ⟨_, rfl⟩
  rw [← hn] at hs
  have c0 := hs.box.cell 0
  simp at c0
  obtain ⟨ev, hev⟩ : ∃ ev, ev = lookE x.ents k := ⟨_, rfl⟩
  have hent := hs.ent k hk
  rw [← hev] at hent hfit ⊢
  obtain ⟨a, m, cap, h1, h2, h3, h4, h5⟩ := hent.slice
  have hm : m ≤ 140737488355328 := by
    rw [h2]
    cases ev with
    | none => simp
    | some d => exact hfit d rfl
  have HCL := Lib.hid (clone_any a m cap _ w h3 h2 h4 hm)
  have HS := Lib.hid hs
  have H1 := Lib.hid h1
  have H5 := Lib.hid h5
  have H2 := Lib.hid h2
  have H8 := Lib.hid h3.1
  clear h hx hn hs hev hent h1 h2 h3 h4 h5 hfit
  have q0 := fld0 (.map o) (.int .u64 (x.sure : Nat)) (.bool x.fen) (.bool x.gone)
  go_enter Tryz.func20, Tryz.ntmps20
  go_wp2_with first
    | (refine wpList_lookV _ rfl (.tmp 16) (.tmp 17) 71 99 rfl key64 Tryz.underlying71 (zeroSto _) n f (.inr ⟨mb, rfl, HS.out.map⟩) i hi rfl ?_; rw [HS.out.at'])
    | (refine wpList_lookV_ok _ rfl (.tmp 19) (.tmp 20) 97 35 rfl key64 Tryz.underlying97 (zeroByt _) n fe HS.out.ents k hk rfl ?_; rw [H1.out, H5.out])
  refine HCL.out.mono ?_
  rintro e w1 ⟨a1, c1, rfl, ho, hf⟩
  rw [← H2.out] at ho ⊢
  have HE := Lib.hid (show w1.ownsRow w.heap.size 5 1 (.slice a1 m c1) m ((ev.getD []).map u8v) ∧ (∀ c ∈ ev.getD [], c < 256) ∧ Frm [] w w1 from ⟨ho, H8.out, hf⟩)
  clear ho hf HCL
  go_wp2
  go_ret2
  exact ⟨a1, m, c1, rfl, H2.out, HE.out⟩

/-- What a call leaves: o: it is answered at once so; or a record b is written, of which ledger i is x. -/
def oS (S : Nd9) (l : List Nat) (room : Nat) (o : Option Nat) (b : List Nat) (i : Nat) (x : Lg) : Nd9 := if o = none then swS S l b room i x else S
def oL (l : List Nat) (room : Nat) (o : Option Nat) (b : List Nat) : List Nat := if o = none then jl l b room else l
def oE (l : List Nat) (room : Nat) (o : Option Nat) (b : List Nat) : Nat := match o with | some k => k | none => jc l b room
theorem oS_some {S : Nd9} {l b : List Nat} {room k i : Nat} {x : Lg} : oS S l room (some k) b i x = S := if_neg (by simp)
theorem oL_some {l b : List Nat} {room k : Nat} : oL l room (some k) b = l := if_neg (by simp)
theorem oS_none {S : Nd9} {l b : List Nat} {room i : Nat} {x : Lg} : oS S l room none b i x = swS S l b room i x := if_pos rfl
theorem oL_none {l b : List Nat} {room : Nat} : oL l room none b = jl l b room := if_pos rfl
def SAct (w : World) (B : Nat) (G : List Nat) (p jq dp : Nat) (Fd : List Nat) (S' : Nd9) (l' : List Nat) (room : Nat) (w' : World) : Prop :=
  ∃ Fd' T, Sp w' B G p jq dp Fd' S' l' room ∧ Frm T w w' ∧ (∀ y ∈ T, y ∉ G ∧ B ≤ y) ∧ (∀ y ∈ Fd', y ∈ Fd ∨ w.heap.size ≤ y)
theorem SAct.same {w w' : World} {B p jq dp : Nat} {G Fd : List Nat} {S : Nd9} {l : List Nat} {room : Nat} (h : Sp w B G p jq dp Fd S l room) (hf : Frm [] w w') : SAct w B G p jq dp Fd S l room w' :=
  ⟨Fd, [], h.here hf, hf, by simp, fun y hy => .inl hy⟩
/-- Something of the call's own ahead of it. -/
theorem SAct.early {w w1 w' : World} {B p jq dp : Nat} {G Fd : List Nat} {S : Nd9} {l : List Nat} {room : Nat} (h : SAct w1 B G p jq dp Fd S l room w') (hf : Frm [] w w1) : SAct w B G p jq dp Fd S l room w' := by
  obtain ⟨Fd', T, h1, h2, h3, h4⟩ := h
  refine ⟨Fd', T, h1, hf.trans h2 (by simp) (fun y hy => .inl hy), h3, fun y hy => ?_⟩
  rcases h4 y hy with h | h
  · exact .inl h
  · have := hf.size; exact .inr (by omega)

/-- Drop: what is answered at once. -/
def dropO (S : Nd9) (i : Nat) : Option Nat := if i = 0 then some 2 else if (S i).gone = true then some 0 else none

set_option maxHeartbeats 4000000 in
theorem sdrop_any {w : World} {B p jq dp : Nat} {G Fd : List Nat} {S : Nd9} {l : List Nat} {room : Nat} (i : Nat) (hi : i < N64) (h : Sp w B G p jq dp Fd S l room) (hG : ∀ y ∈ G, y < w.heap.size) :
    Calls Tryz.prog 23 #[.pointer (some ⟨p, 0, none⟩), .int .u64 (i : Nat)] w fun e w' => e = .returned (.int .i64 (oE l room (dropO S i) (recW 3 i) : Nat)) ∧ SAct w B G p jq dp Fd (oS S l room (dropO S i) (recW 3 i) i dropL) (oL l room (dropO S i) (recW 3 i)) room w' := by
  obtain ⟨Q, hQ⟩ : ∃ Q : Ending → World → Prop, Q = fun e w' => e = .returned (.int .i64 (oE l room (dropO S i) (recW 3 i) : Nat)) ∧ SAct w B G p jq dp Fd (oS S l room (dropO S i) (recW 3 i) i dropL) (oL l room (dropO S i) (recW 3 i)) room w' := ⟨_, rfl⟩
  rw [← hQ]
  have SAME : Hid (∀ k : Nat, dropO S i = some k → Q (.returned (.int .i64 (k : Nat))) w) := Lib.hid fun k hk => by
    rw [hQ]
    dsimp only
    rw [hk, oS_some, oL_some]
    exact ⟨rfl, SAct.same h (Frm.refl _ _)⟩
  have WRITE : Hid (dropO S i = none → ∀ w1 a len cap, Frm [] w w1 → w1.ownsRow w.heap.size 5 1 (.slice a len cap) len ((recW 3 i).map u8v) → len = (recW 3 i).length → (∀ x ∈ recW 3 i, x < 256) → Calls Tryz.prog 43 #[.pointer (some ⟨p, 0, none⟩), .slice a len cap] w1 fun e w' => ∃ n : Nat, e = .returned (.int .i64 (n : Nat)) ∧ Q e w') := Lib.hid fun hn w1 a len cap hf ho hl h8 => by
    subst hl
    have hob := bytes_of_own ho h8
    have hg : (S i).gone = false := by
      unfold dropO at hn
      by_cases h0 : i = 0
      · rw [if_pos h0] at hn; cases hn
      · rw [if_neg h0] at hn
        by_cases h1 : (S i).gone = true
        · rw [if_pos h1] at hn; cases hn
        · simpa using h1
    refine (swrite_any a _ cap (recW 3 i) (h.here hf) (fun y hy => Nat.lt_of_lt_of_le (hG y hy) hf.size) hob.2.1 rfl (fun _ y hy hm => ?_) hob.2.2 (by rw [recW_len]; omega) (say_D hi hg)).mono ?_
    · have h1 := (own_block_lt ho (g := y.block) (by rw [hy]; rfl)).1
      have h2 := h.plt y.block (by simp [hm])
      omega
    · rintro e w' ⟨Fd', T, he, hsp, hf2, hT, hF⟩
      refine ⟨_, he, ?_⟩
      rw [hQ]
      dsimp only
      rw [hn, oS_none, oL_none]
      exact ⟨he, SAct.early ⟨Fd', T, hsp, hf2, hT, hF⟩ hf⟩
  obtain ⟨mb, f, o, fe, hs⟩ := h.stock hi
  obtain ⟨n, hn⟩ : ∃ n, n = l.length := ⟨_, rfl⟩
  rw [← hn] at hs
  obtain ⟨rn, hrn⟩ : ∃ rn, rn = (recW 3 i).length := ⟨_, rfl⟩
  have HRN := Lib.hid hrn
  have HW := Lib.hid (whole_any w 3 i (by omega) hi)
  rw [show ((3 : Nat) : Int) = 3 from rfl] at HW
  have c0 := hs.box.cell 0
  simp at c0
  have HS := Lib.hid hs
  clear h hG hn hs hQ hrn
  by_cases h0 : i = 0
  · have HE := Lib.hid (SAME.out 2 (by unfold dropO; rw [if_pos h0]))
    have e0 : ((i : Int) == 0) = true := by rw [beq_iff_eq]; omega
    clear SAME WRITE HW h0 c0
    go_enter Tryz.func23, Tryz.ntmps23
    go_wp2
    exact HE.out
  · have e0 : ((i : Int) == 0) = false := by rw [beq_eq_false_iff_ne]; omega
    by_cases hg : (S i).gone = true
    · have HE := Lib.hid (SAME.out 0 (by unfold dropO; rw [if_neg h0, if_pos hg]))
      have HAT := HS.out.at'
      rw [hg] at HAT
      have HAT := Lib.hid HAT
      clear SAME WRITE HW h0 hg
      have q0 := fld3 (.map o) (.int .u64 ((S i).sure : Nat)) (.bool (S i).fen) (.bool true)
      go_enter Tryz.func23, Tryz.ntmps23
      go_wp2_with (refine wpList_lookV _ rfl (.tmp 15) (.tmp 16) 71 99 rfl key64 Tryz.underlying71 (zeroSto _) n f (.inr ⟨mb, rfl, HS.out.map⟩) i hi rfl ?_; rw [HAT.out])
      exact HE.out
    · have hg' : (S i).gone = false := by simpa using hg
      have hno : dropO S i = none := by unfold dropO; rw [if_neg h0, if_neg hg]
      have WR := Lib.hid (WRITE.out hno)
      have HAT := HS.out.at'
      rw [hg'] at HAT
      have HAT := Lib.hid HAT
      clear SAME WRITE h0 hg hg' hno
      have q0 := fld3 (.map o) (.int .u64 ((S i).sure : Nat)) (.bool (S i).fen) (.bool false)
      go_enter Tryz.func23, Tryz.ntmps23
      go_wp2_with (refine wpList_lookV _ rfl (.tmp 15) (.tmp 16) 71 99 rfl key64 Tryz.underlying71 (zeroSto _) n f (.inr ⟨mb, rfl, HS.out.map⟩) i hi rfl ?_; rw [HAT.out])
      (with_reducible refine HW.out.mono ?_)
      rintro e w1 ⟨⟨a, c, rfl, ho, hf⟩, h8⟩
      rw [← HRN.out] at ho ⊢
      have HC := Lib.hid (WR.out w1 a rn c hf ho HRN.out h8)
      clear WR ho hf h8 HW
      go_wp2_with fail
      (with_reducible refine HC.out.mono ?_)
      rintro e w2 ⟨k, rfl, hq⟩
      have HE := Lib.hid hq
      clear hq HC
      go_wp2
      exact HE.out
end Go.Proofs.YtamcandcfainfaaGreat
/- Contracts of the shelf's Fence, Add; of a nil one. Written by wip/mk-shcalls2.py. -/
namespace Go.Proofs.YtamcandcfainfaaGreat
open Go.RowKit
set_option maxRecDepth 100000

theorem SAct.less {w w' : World} {B p jq dp g : Nat} {G Fd : List Nat} {S : Nd9} {l : List Nat} {room : Nat} (h : SAct w B (g :: G) p jq dp Fd S l room w') : SAct w B G p jq dp Fd S l room w' := by
  obtain ⟨Fd', T, h1, h2, h3, h4⟩ := h
  exact ⟨Fd', T, h1.keep (T := []) (Frm.refl _ _) (by simp) (fun x hx => .inl (by simp [hx])), h2, fun y hy => ⟨fun hm => (h3 y hy).1 (by simp [hm]), (h3 y hy).2⟩, h4⟩

/-- Fence: what is answered at once. -/
def fenO (S : Nd9) (i : Nat) : Option Nat := if i = 0 then some 2 else if (S i).gone = true then some 24 else if (S i).fen = true then some 0 else none
def fenN (S : Nd9) (l : List Nat) (room i : Nat) : Nat := if oE l room (fenO S i) (recW 2 i) = 0 then (S i).sure else 0
def FenEnd (w : World) (B : Nat) (G : List Nat) (p jq dp : Nat) (Fd : List Nat) (S : Nd9) (l : List Nat) (room i : Nat) (e : Ending) (w' : World) : Prop :=
  e = .returned (.tuple #[.int .u64 (fenN S l room i : Nat), .int .i64 (oE l room (fenO S i) (recW 2 i) : Nat)]) ∧ SAct w B G p jq dp Fd (oS S l room (fenO S i) (recW 2 i) i (fenL (S i))) (oL l room (fenO S i) (recW 2 i)) room w'

set_option maxHeartbeats 8000000 in
theorem sfence_any {w : World} {B p jq dp : Nat} {G Fd : List Nat} {S : Nd9} {l : List Nat} {room : Nat} (i : Nat) (hi : i < N64) (h : Sp w B G p jq dp Fd S l room) (hG : ∀ y ∈ G, y < w.heap.size) :
    Calls Tryz.prog 19 #[.pointer (some ⟨p, 0, none⟩), .int .u64 (i : Nat)] w (FenEnd w B G p jq dp Fd S l room i) := by
  obtain ⟨Q, hQ⟩ : ∃ Q, Q = FenEnd w B G p jq dp Fd S l room i := ⟨_, rfl⟩
  rw [← hQ]
  have SAME : Hid (∀ (k : Nat) (w1 : World), fenO S i = some k → Frm [] w w1 → Q (.returned (.tuple #[.int .u64 ((if k = 0 then (S i).sure else 0 : Nat) : Nat), .int .i64 (k : Nat)])) w1) := Lib.hid fun k w1 hk hf => by
    rw [hQ]
    unfold FenEnd fenN
    rw [hk, oS_some, oL_some]
    exact ⟨rfl, SAct.same h hf⟩
  have WRITE : Hid (fenO S i = none → ∀ w1 g a len cap, Frm [] w w1 → w.heap.size ≤ g → g < w1.heap.size → w1.ownsRow (g + 1) 5 1 (.slice a len cap) len ((recW 2 i).map u8v) → len = (recW 2 i).length → (∀ x ∈ recW 2 i, x < 256) → Calls Tryz.prog 43 #[.pointer (some ⟨p, 0, none⟩), .slice a len cap] w1 fun e w' => ∃ n : Nat, e = .returned (.int .i64 (n : Nat)) ∧ (∃ T, Frm T w1 w' ∧ g ∉ T) ∧ ∀ w2, Frm [] w' w2 → Q (.returned (.tuple #[.int .u64 ((if n = 0 then (S i).sure else 0 : Nat) : Nat), .int .i64 (n : Nat)])) w2) := Lib.hid fun hn w1 g a len cap hf hgw hg1 ho hl h8 => by
    subst hl
    have hob := bytes_of_own ho h8
    have hg : (S i).gone = false := by
      unfold fenO at hn
      by_cases h0 : i = 0
      · rw [if_pos h0] at hn; cases hn
      · rw [if_neg h0] at hn
        by_cases h1 : (S i).gone = true
        · rw [if_pos h1] at hn; cases hn
        · simpa using h1
    have hsp : Sp w1 B (g :: G) p jq dp Fd S l room := h.keep hf (by simp) (fun x hx => by
      rcases List.mem_cons.1 hx with rfl | hx
      · exact .inr hgw
      · exact .inl hx)
    refine (swrite_any a _ cap (recW 2 i) hsp (fun y hy => ?_) hob.2.1 rfl (fun _ y hy hm => ?_) hob.2.2 (by rw [recW_len]; omega) (say_F hi hg)).mono ?_
    · rcases List.mem_cons.1 hy with rfl | hy
      · exact hg1
      · exact Nat.lt_of_lt_of_le (hG y hy) hf.size
    · have h1 := (own_block_lt ho (g := y.block) (by rw [hy]; rfl)).1
      have h2 := h.plt y.block (by simp [hm])
      omega
    · rintro e w' ⟨Fd', T, he, hsp, hf2, hT, hF⟩
      refine ⟨_, he, ⟨T, hf2, fun hm => (hT g hm).1 (by simp)⟩, fun w2 hz => ?_⟩
      rw [hQ]
      unfold FenEnd fenN
      rw [hn, oS_none, oL_none]
      refine ⟨rfl, ?_⟩
      have hend := SAct.less (SAct.early ⟨Fd', T, hsp, hf2, hT, hF⟩ hf)
      obtain ⟨Fe, Te, e1, e2, e3, e4⟩ := hend
      exact ⟨Fe, Te, e1.here hz, e2.trans hz (fun y hy => hy) (by simp), e3, e4⟩
  obtain ⟨mb, f, o, fe, hs⟩ := h.stock hi
  obtain ⟨n, hn⟩ : ∃ n, n = l.length := ⟨_, rfl⟩
  rw [← hn] at hs
  have HS := Lib.hid hs
  have c0 := hs.box.cell 0
  simp at c0
  obtain ⟨sv, hsv⟩ : ∃ sv, sv = (S i).sure := ⟨_, rfl⟩
  have HSV := Lib.hid hsv
  obtain ⟨w1, hw1⟩ : ∃ w1, w1 = w.alloc (.cells #[.map o, .int .u64 (sv : Nat), .bool (S i).fen, .bool (S i).gone] 99) := ⟨_, rfl⟩
  obtain ⟨g, hg⟩ : ∃ g, g = w.heap.size := ⟨_, rfl⟩
  have hW := Whole.made w 99 #[.map o, .int .u64 (sv : Nat), .bool (S i).fen, .bool (S i).gone]
  have HW := Lib.hid hW
  have HF1 := Lib.hid ((Frm.refl [] w).alloc (.cells #[.map o, .int .u64 (sv : Nat), .bool (S i).fen, .bool (S i).gone] 99))
  have HAT := hs.at'
  rw [← hsv] at HAT SAME WRITE
  have HAT := Lib.hid HAT
  clear h hG hn hs hQ hsv hW hw1 hg
  by_cases h0 : i = 0
  · have HE := Lib.hid (SAME.out 2 _ (by unfold fenO; rw [if_pos h0]) HF1.out)
    rw [show (if 2 = 0 then sv else 0) = 0 from rfl] at HE
    have e0 : ((i : Int) == 0) = true := by rw [beq_iff_eq]; omega
    have HATB := HAT
    clear SAME WRITE HW HF1 h0
    go_enter Tryz.func19, Tryz.ntmps19
    go_wp2_with (refine wpList_lookV _ rfl (.tmp 13) (.tmp 14) 71 99 rfl key64 Tryz.underlying71 (zeroSto _) n f (.inr ⟨mb, rfl, HS.out.map⟩) i hi rfl ?_; rw [HATB.out])
    exact HE.out
  · have e0 : ((i : Int) == 0) = false := by rw [beq_eq_false_iff_ne]; omega
    by_cases hgn : (S i).gone = true
    · have HE := Lib.hid (SAME.out 24 _ (by unfold fenO; rw [if_neg h0, if_pos hgn]) HF1.out)
      rw [show (if 24 = 0 then sv else 0) = 0 from rfl] at HE
      have HATB := HAT.out
      rw [hgn] at HATB HE
      have HATB := Lib.hid HATB
      clear SAME WRITE HW HF1 h0 hgn HAT
      go_enter Tryz.func19, Tryz.ntmps19
      go_wp2_with (refine wpList_lookV _ rfl (.tmp 13) (.tmp 14) 71 99 rfl key64 Tryz.underlying71 (zeroSto _) n f (.inr ⟨mb, rfl, HS.out.map⟩) i hi rfl ?_; rw [HATB.out])
      exact HE.out
    · have hgn' : (S i).gone = false := by simpa using hgn
      by_cases hfn : (S i).fen = true
      · have HE := Lib.hid (SAME.out 0 _ (by unfold fenO; rw [if_neg h0, if_neg hgn, if_pos hfn]) HF1.out)
        rw [show (if 0 = 0 then sv else 0) = sv from rfl] at HE
        have HATB := HAT.out
        rw [hgn', hfn] at HATB HE
        have HATB := Lib.hid HATB
        clear SAME WRITE HW HF1 h0 hgn hgn' hfn HAT
        go_enter Tryz.func19, Tryz.ntmps19
        go_wp2_with (refine wpList_lookV _ rfl (.tmp 13) (.tmp 14) 71 99 rfl key64 Tryz.underlying71 (zeroSto _) n f (.inr ⟨mb, rfl, HS.out.map⟩) i hi rfl ?_; rw [HATB.out])
        exact HE.out
      · have hfn' : (S i).fen = false := by simpa using hfn
        have hno : fenO S i = none := by unfold fenO; rw [if_neg h0, if_neg hgn, if_neg hfn]
        have HWR := Lib.hid (WRITE.out hno)
        have HATB := HAT.out
        rw [hgn', hfn'] at HATB HW HF1
        have HATB := Lib.hid HATB
        obtain ⟨w1, hw1⟩ : ∃ w1, w1 = w.alloc (.cells #[.map o, .int .u64 (sv : Nat), .bool false, .bool false] 99) := ⟨_, rfl⟩
        have HWH := Lib.hid (whole_any w1 2 i (by omega) hi)
        rw [show ((2 : Nat) : Int) = 2 from rfl] at HWH
        obtain ⟨rn, hrn⟩ : ∃ rn, rn = (recW 2 i).length := ⟨_, rfl⟩
        have HRN := Lib.hid hrn
        have hwsz : w1.heap.size = w.heap.size + 1 := by rw [hw1]; simp
        have HWSZ := Lib.hid hwsz
        rw [← hw1] at HW HF1
        have HW1 := Lib.hid hw1
        obtain ⟨g, hg⟩ : ∃ g, g = w.heap.size := ⟨_, rfl⟩
        have HG := Lib.hid hg
        clear SAME WRITE h0 hgn hgn' hfn hfn' hno HAT hrn hwsz hw1 hg
        go_enter Tryz.func19, Tryz.ntmps19
        go_wp2_with (refine wpList_lookV _ rfl (.tmp 13) (.tmp 14) 71 99 rfl key64 Tryz.underlying71 (zeroSto _) n f (.inr ⟨mb, rfl, HS.out.map⟩) i hi rfl ?_; rw [HATB.out])
        rw [← HW1.out, ← HG.out]
        (with_reducible refine HWH.out.mono ?_)
        rintro e w2 ⟨⟨a, c, rfl, ho, hf⟩, h8⟩
        rw [← HRN.out] at ho ⊢
        have HC := Lib.hid (HWR.out w2 g a rn c (HF1.out.trans hf (U := []) (by simp) (by simp)) (by have := HG.out; omega) (by have h1 := hf.size; have h2 := HWSZ.out; have h3 := HG.out; omega) (own_base ho (by have h2 := HWSZ.out; have h3 := HG.out; omega)) HRN.out h8)
        have hW2 := hf.whole HW.out (by simp)
        rw [← HG.out] at hW2
        have HW2 := Lib.hid hW2
        clear hW2 HWR ho hf h8 HWH
        go_wp2_with fail
        (with_reducible refine HC.out.mono ?_)
        rintro e w3 ⟨k, rfl, ⟨T, hf3, hgT⟩, hq⟩
        have hW3 := hf3.whole HW2.out hgT
        have d1 := hW3.cell 1
        simp at d1
        by_cases hk : k = 0
        · subst hk
          have HE := Lib.hid (hq w3 (Frm.refl _ _))
          rw [show (if 0 = 0 then sv else 0) = sv from rfl] at HE
          clear hq hf3 hgT hW3 HC
          go_wp2
          exact HE.out
        · have HE := Lib.hid (hq w3 (Frm.refl _ _))
          rw [show (if k = 0 then sv else 0) = 0 from if_neg hk] at HE
          have hne : ((k : Int) != 0) = true := by rw [bne_iff_ne]; omega
          clear hq hf3 hgT hW3 HC hk
          go_wp2
          exact HE.out
end Go.Proofs.YtamcandcfainfaaGreat
/- Contract of the shelf's Add. Written by wip/mk-shadd.py. -/
namespace Go.Proofs.YtamcandcfainfaaGreat
open Go.RowKit
set_option maxRecDepth 100000

/-- Add: what is answered at once. -/
def addO (S : Nd9) (i k s : Nat) (d : List Nat) (m : Bool) : Option Nat :=
  if i = 0 then some 2 else if 256 < d.length then some 3 else if (S i).gone = true then some 24 else if ((S i).fen && !m) = true then some 20 else
    match lookE (S i).ents k with
    | none => none
    | some d0 => if d0 = d then (if s ≤ (S i).sure then some 0 else none) else some 21
theorem addO_gone {S : Nd9} {i k s : Nat} {d : List Nat} {m : Bool} (h : addO S i k s d m = none) : (S i).gone = false ∧ d.length ≤ 256 := by
  unfold addO at h
  by_cases h0 : i = 0
  · rw [if_pos h0] at h; cases h
  · rw [if_neg h0] at h
    by_cases h1 : 256 < d.length
    · rw [if_pos h1] at h; cases h
    · rw [if_neg h1] at h
      by_cases h2 : (S i).gone = true
      · rw [if_pos h2] at h; cases h
      · exact ⟨by simpa using h2, by omega⟩
def AddCEnd (w : World) (B : Nat) (G : List Nat) (p jq dp : Nat) (Fd : List Nat) (S : Nd9) (l : List Nat) (room i k s : Nat) (d : List Nat) (m : Bool) (e : Ending) (w' : World) : Prop :=
  e = .returned (.int .i64 (oE l room (addO S i k s d m) (recA i k s d) : Nat)) ∧ SAct w B G p jq dp Fd (oS S l room (addO S i k s d m) (recA i k s d) i (addL (S i) k s d)) (oL l room (addO S i k s d m) (recA i k s d)) room w'

set_option maxHeartbeats 16000000 in
theorem scadd_any {w : World} {B p jq dp : Nat} {G Fd : List Nat} {S : Nd9} {l : List Nat} {room : Nat} (i k s : Nat) (a : Option Addr) (len cap : Nat) (d : List Nat) (m : Bool) (hi : i < N64) (hk : k < N64) (hsu : s < N64) (h : Sp w B G p jq dp Fd S l room) (hG : ∀ y ∈ G, y < w.heap.size) (hb : Bytes w a d) (hlen : len = d.length) (hnil : a = none → cap = 0) :
    Calls Tryz.prog 18 #[.pointer (some ⟨p, 0, none⟩), .int .u64 (i : Nat), .agg #[.int .u64 (k : Nat), .slice a len cap], .int .u64 (s : Nat), .bool m] w (AddCEnd w B G p jq dp Fd S l room i k s d m) := by
  have hl63 : len ≤ 9223372036854775807 := by have := hb.2.1; omega
  obtain ⟨Q, hQ⟩ : ∃ Q, Q = AddCEnd w B G p jq dp Fd S l room i k s d m := ⟨_, rfl⟩
  rw [← hQ]
  have SAME : Hid (∀ (k' : Nat) (w1 : World), addO S i k s d m = some k' → Frm [] w w1 → Q (.returned (.int .i64 (k' : Nat))) w1) := Lib.hid fun k' w1 hk' hf => by
    rw [hQ]
    unfold AddCEnd
    rw [hk', oS_some, oL_some]
    exact ⟨rfl, SAct.same h hf⟩
  have WRITE : Hid (addO S i k s d m = none → ∀ w1, Frm [] w w1 → Calls Tryz.prog 44 #[.int .u64 (i : Nat), .agg #[.int .u64 (k : Nat), .slice a len cap], .int .u64 (s : Nat)] w1 fun e w2 => ∃ ar rn cr, e = .returned (.slice ar rn cr) ∧ Calls Tryz.prog 43 #[.pointer (some ⟨p, 0, none⟩), .slice ar rn cr] w2 fun e w' => ∃ n : Nat, e = .returned (.int .i64 (n : Nat)) ∧ Q e w') := Lib.hid fun hn w1 hf => by
    obtain ⟨hg, hd⟩ := addO_gone hn
    refine (addition_any w1 i k s a len cap d hi hk hsu (hf.bytes' hb (by simp)) hlen hnil (by omega)).mono ?_
    rintro e w2 ⟨⟨ar, cr, rfl, ho, hf2⟩, h8⟩
    refine ⟨ar, _, cr, rfl, ?_⟩
    have hob := bytes_of_own ho h8
    have hf3 := hf.trans hf2 (U := []) (by simp) (by simp)
    refine (swrite_any ar _ cr (recA i k s d) (h.here hf3) (fun y hy => Nat.lt_of_lt_of_le (hG y hy) hf3.size) hob.2.1 rfl (fun _ y hy hm => ?_) hob.2.2 (by rw [recA_len]; omega) (say_A hi hk hsu (by omega) hg)).mono ?_
    · have h1 := (own_block_lt ho (g := y.block) (by rw [hy]; rfl)).1
      have h2 := h.plt y.block (by simp [hm])
      have h3 := hf.size
      omega
    · rintro e w' ⟨Fd', T, he, hsp, hf4, hT, hF⟩
      refine ⟨_, he, ?_⟩
      rw [hQ]
      unfold AddCEnd
      rw [hn, oS_none, oL_none]
      exact ⟨he, SAct.early ⟨Fd', T, hsp, hf4, hT, hF⟩ hf3⟩
  obtain ⟨mb, f, o, fe, hs⟩ := h.stock hi
  obtain ⟨n, hn⟩ : ∃ n, n = l.length := ⟨_, rfl⟩
  rw [← hn] at hs
  have HS := Lib.hid hs
  obtain ⟨x, hx⟩ : ∃ x, x = S i := ⟨_, rfl⟩
  rw [← hx] at HS hs
  have HX := Lib.hid hx
  obtain ⟨ev, hev⟩ : ∃ ev, ev = lookE x.ents k := ⟨_, rfl⟩
  have HEV := Lib.hid hev
  have hent := hs.ent k hk
  rw [← hev] at hent
  obtain ⟨a0, n0, cap0, h1, h2, h3, h4, h5⟩ := hent.slice
  have H1 := Lib.hid h1
  have H5 := Lib.hid h5
  have HEQ := Lib.hid (fun (z : World) (hz : Frm [] w z) => bequal_any a0 n0 cap0 _ a len cap d z (hz.bytes' h3 (by simp)) h2 (hz.bytes' hb (by simp)) hlen)
  have HLEN := Lib.hid hlen
  have HI0 := Lib.hid (Whole.made w 57 #[.int .u64 (k : Nat), .slice a len cap])
  obtain ⟨wA, hwA⟩ : ∃ wA, wA = w.alloc (.cells #[.int .u64 (k : Nat), .slice a len cap] 57) := ⟨_, rfl⟩
  have hfA : Frm [] w wA := by rw [hwA]; exact (Frm.refl _ _).alloc _
  have HWA := Lib.hid hwA
  have HFA := Lib.hid hfA
  have c0 : (w.alloc (.cells #[.int .u64 (k : Nat), .slice a len cap] 57)).cell? ⟨p, 0, none⟩ = some (.map (some mb)) := by
    have := (hfA.whole hs.box (by simp)).cell 0
    rw [hwA] at this
    exact this
  have hiA := Whole.made w 57 #[.int .u64 (k : Nat), .slice a len cap]
  rw [← hwA] at hiA
  have CS : Hid (∀ (gb fb : Bool), Whole (wA.alloc (.cells #[.map o, .int .u64 (x.sure : Nat), .bool fb, .bool gb] 99)) (w.heap.size + 1) 99 #[.map o, .int .u64 (x.sure : Nat), .bool fb, .bool gb] ∧ Whole (wA.alloc (.cells #[.map o, .int .u64 (x.sure : Nat), .bool fb, .bool gb] 99)) w.heap.size 57 #[.int .u64 (k : Nat), .slice a len cap] ∧ Frm [] w (wA.alloc (.cells #[.map o, .int .u64 (x.sure : Nat), .bool fb, .bool gb] 99))) := Lib.hid fun gb fb => by
    have e : wA.heap.size = w.heap.size + 1 := by rw [hwA]; simp
    refine ⟨?_, ((Frm.refl [] wA).alloc _).whole hiA (by simp), hfA.alloc _⟩
    rw [← e]
    exact Whole.made _ _ _
  have HAT := Lib.hid hs.at'
  have HSU := Lib.hid hs.sure
  obtain ⟨fb, hfb⟩ : ∃ fb, fb = x.fen := ⟨_, rfl⟩
  obtain ⟨gb, hgb⟩ : ∃ gb, gb = x.gone := ⟨_, rfl⟩
  obtain ⟨sv, hsv⟩ : ∃ sv, sv = x.sure := ⟨_, rfl⟩
  have hO : addO S i k s d m = if i = 0 then some 2 else if 256 < len then some 3 else if gb = true then some 24 else if (fb && !m) = true then some 20 else match ev with
    | none => none
    | some d0 => if d0 = d then (if s ≤ sv then some 0 else none) else some 21 := by
    unfold addO
    rw [← hx, ← hev, ← hfb, ← hgb, ← hsv, ← hlen]
  rw [← hfb, ← hgb, ← hsv] at HAT
  rw [← hsv] at CS HSU
  obtain ⟨oo, hoo⟩ : ∃ oo, oo = addO S i k s d m := ⟨_, rfl⟩
  rw [← hoo] at SAME WRITE hO
  have HO := Lib.hid hO
  have hsv64 : sv < 18446744073709551616 := HSU.out
  have hs64 : s < 18446744073709551616 := hsu
  clear h hG hn hs hQ hx hev hent h1 h2 h3 h4 h5 hwA hfA hiA hfb hgb hsv hO hoo hb hnil hlen HX HEV HI0 HSU hsu
  have HFR : Hid (wA = w.alloc (.cells #[.int .u64 (k : Nat), .slice a len cap] 57)) := HWA
  rw [HFR.out] at CS
  by_cases h0 : i = 0
  · have e0 : ((i : Int) == 0) = true := by rw [beq_iff_eq]; omega
    have HE := Lib.hid (SAME.out 2 _ (HO.out.trans (if_pos h0)) (CS.out gb fb).2.2)
    clear SAME WRITE HO
    go_enter Tryz.func18, Tryz.ntmps18
    go_wp2_with first
      | (refine wpList_lookV _ rfl (.tmp 19) (.tmp 20) 71 99 rfl key64 Tryz.underlying71 (zeroSto _) n f (.inr ⟨mb, rfl, HS.out.map.keep ((Frm.refl [] w).alloc _) (by simp)⟩) i hi rfl ?_; rw [HAT.out])
      | (refine wpList_lookV_ok _ rfl (.tmp 24) (.tmp 26) 97 35 rfl key64 Tryz.underlying97 (zeroByt _) n fe (HS.out.ents.keep (((Frm.refl [] w).alloc _).alloc _) (by simp)) k hk rfl ?_; rw [H1.out, H5.out])
    exact HE.out
  · have e0 : ((i : Int) == 0) = false := by rw [beq_eq_false_iff_ne]; omega
    rw [if_neg h0] at HO
    by_cases hL : 256 < len
    · skip
      have HE := Lib.hid (SAME.out 3 _ (HO.out.trans (if_pos hL)) (CS.out gb fb).2.2)
      clear SAME WRITE HO
      go_enter Tryz.func18, Tryz.ntmps18
      go_wp2_with first
        | (refine wpList_lookV _ rfl (.tmp 19) (.tmp 20) 71 99 rfl key64 Tryz.underlying71 (zeroSto _) n f (.inr ⟨mb, rfl, HS.out.map.keep ((Frm.refl [] w).alloc _) (by simp)⟩) i hi rfl ?_; rw [HAT.out])
        | (refine wpList_lookV_ok _ rfl (.tmp 24) (.tmp 26) 97 35 rfl key64 Tryz.underlying97 (zeroByt _) n fe (HS.out.ents.keep (((Frm.refl [] w).alloc _).alloc _) (by simp)) k hk rfl ?_; rw [H1.out, H5.out])
      exact HE.out
    · rw [if_neg hL] at HO
      cases gb
      case true =>
        have HE := Lib.hid (SAME.out 24 _ (HO.out.trans (if_pos rfl)) (CS.out true fb).2.2)
        clear SAME WRITE HO
        go_enter Tryz.func18, Tryz.ntmps18
        go_wp2_with first
          | (refine wpList_lookV _ rfl (.tmp 19) (.tmp 20) 71 99 rfl key64 Tryz.underlying71 (zeroSto _) n f (.inr ⟨mb, rfl, HS.out.map.keep ((Frm.refl [] w).alloc _) (by simp)⟩) i hi rfl ?_; rw [HAT.out])
          | (refine wpList_lookV_ok _ rfl (.tmp 24) (.tmp 26) 97 35 rfl key64 Tryz.underlying97 (zeroByt _) n fe (HS.out.ents.keep (((Frm.refl [] w).alloc _).alloc _) (by simp)) k hk rfl ?_; rw [H1.out, H5.out])
        exact HE.out
      case false =>
        rw [if_neg (by decide)] at HO
        cases fb
        case true =>
          cases m
          case false =>
            have HE := Lib.hid (SAME.out 20 _ (HO.out.trans (if_pos rfl)) (CS.out false true).2.2)
            clear SAME WRITE HO
            go_enter Tryz.func18, Tryz.ntmps18
            go_wp2_with first
              | (refine wpList_lookV _ rfl (.tmp 19) (.tmp 20) 71 99 rfl key64 Tryz.underlying71 (zeroSto _) n f (.inr ⟨mb, rfl, HS.out.map.keep ((Frm.refl [] w).alloc _) (by simp)⟩) i hi rfl ?_; rw [HAT.out])
              | (refine wpList_lookV_ok _ rfl (.tmp 24) (.tmp 26) 97 35 rfl key64 Tryz.underlying97 (zeroByt _) n fe (HS.out.ents.keep (((Frm.refl [] w).alloc _).alloc _) (by simp)) k hk rfl ?_; rw [H1.out, H5.out])
            exact HE.out
          case true =>
            rw [if_neg (by decide)] at HO
            cases ev with
            | none =>
              rw [show (Option.isSome (none : Option (List Nat))) = false from rfl] at H5
              have HWR := Lib.hid (WRITE.out HO.out)
              clear SAME WRITE HEQ HO
              go_enter Tryz.func18, Tryz.ntmps18
              go_wp2_with first
                | (refine wpList_lookV _ rfl (.tmp 19) (.tmp 20) 71 99 rfl key64 Tryz.underlying71 (zeroSto _) n f (.inr ⟨mb, rfl, HS.out.map.keep ((Frm.refl [] w).alloc _) (by simp)⟩) i hi rfl ?_; rw [HAT.out])
                | (refine wpList_lookV_ok _ rfl (.tmp 24) (.tmp 26) 97 35 rfl key64 Tryz.underlying97 (zeroByt _) n fe (HS.out.ents.keep (((Frm.refl [] w).alloc _).alloc _) (by simp)) k hk rfl ?_; rw [H1.out, H5.out])
              (with_reducible refine (HWR.out _ (CS.out false true).2.2).mono ?_)
              rintro e w2 ⟨ar, rn, cr, rfl, hc⟩
              have HC := Lib.hid hc
              clear hc HWR
              go_wp2_with fail
              (with_reducible refine HC.out.mono ?_)
              rintro e w3 ⟨nn, rfl, hq⟩
              have HE := Lib.hid hq
              clear hq HC
              go_wp2
              exact HE.out
            | some d0 =>
              rw [show (Option.isSome (some d0)) = true from rfl] at H5
              by_cases hdd : d0 = d
              · have HQE : Hid (∀ z, Frm [] w z → Calls Tryz.prog 42 #[.slice a0 n0 cap0, .slice a len cap] z fun e w' => e = .returned (.bool true) ∧ z = w') := Lib.hid fun z hz => by
                  have := HEQ.out z hz
                  rw [decide_eq_true (show (some d0).getD [] = d from hdd)] at this
                  exact this
                by_cases hss : s ≤ sv
                · have HE := Lib.hid (SAME.out 0 _ (HO.out.trans ((if_pos hdd).trans (if_pos hss))) (CS.out false true).2.2)
                  clear SAME WRITE HO HEQ hdd
                  go_enter Tryz.func18, Tryz.ntmps18
                  go_wp2_with first
                    | (refine wpList_lookV _ rfl (.tmp 19) (.tmp 20) 71 99 rfl key64 Tryz.underlying71 (zeroSto _) n f (.inr ⟨mb, rfl, HS.out.map.keep ((Frm.refl [] w).alloc _) (by simp)⟩) i hi rfl ?_; rw [HAT.out])
                    | (refine wpList_lookV_ok _ rfl (.tmp 24) (.tmp 26) 97 35 rfl key64 Tryz.underlying97 (zeroByt _) n fe (HS.out.ents.keep (((Frm.refl [] w).alloc _).alloc _) (by simp)) k hk rfl ?_; rw [H1.out, H5.out])
                  (with_reducible refine (HQE.out _ (CS.out false true).2.2).mono ?_)
                  rintro e w2 ⟨rfl, rfl⟩
                  go_wp2
                  exact HE.out
                · have HWR := Lib.hid (WRITE.out (HO.out.trans ((if_pos hdd).trans (if_neg hss))))
                  clear SAME WRITE HO HEQ hdd
                  go_enter Tryz.func18, Tryz.ntmps18
                  go_wp2_with first
                    | (refine wpList_lookV _ rfl (.tmp 19) (.tmp 20) 71 99 rfl key64 Tryz.underlying71 (zeroSto _) n f (.inr ⟨mb, rfl, HS.out.map.keep ((Frm.refl [] w).alloc _) (by simp)⟩) i hi rfl ?_; rw [HAT.out])
                    | (refine wpList_lookV_ok _ rfl (.tmp 24) (.tmp 26) 97 35 rfl key64 Tryz.underlying97 (zeroByt _) n fe (HS.out.ents.keep (((Frm.refl [] w).alloc _).alloc _) (by simp)) k hk rfl ?_; rw [H1.out, H5.out])
                  (with_reducible refine (HQE.out _ (CS.out false true).2.2).mono ?_)
                  rintro e w2 ⟨rfl, rfl⟩
                  go_wp2_with fail
                  (with_reducible refine (HWR.out _ (CS.out false true).2.2).mono ?_)
                  rintro e w2 ⟨ar, rn, cr, rfl, hc⟩
                  have HC := Lib.hid hc
                  clear hc HWR
                  go_wp2_with fail
                  (with_reducible refine HC.out.mono ?_)
                  rintro e w3 ⟨nn, rfl, hq⟩
                  have HE := Lib.hid hq
                  clear hq HC
                  go_wp2
                  exact HE.out
              · have HQE : Hid (∀ z, Frm [] w z → Calls Tryz.prog 42 #[.slice a0 n0 cap0, .slice a len cap] z fun e w' => e = .returned (.bool false) ∧ z = w') := Lib.hid fun z hz => by
                  have := HEQ.out z hz
                  rw [decide_eq_false (show ¬ (some d0).getD [] = d from hdd)] at this
                  exact this
                have HE := Lib.hid (SAME.out 21 _ (HO.out.trans (if_neg hdd)) (CS.out false true).2.2)
                clear SAME WRITE HO HEQ hdd
                go_enter Tryz.func18, Tryz.ntmps18
                go_wp2_with first
                  | (refine wpList_lookV _ rfl (.tmp 19) (.tmp 20) 71 99 rfl key64 Tryz.underlying71 (zeroSto _) n f (.inr ⟨mb, rfl, HS.out.map.keep ((Frm.refl [] w).alloc _) (by simp)⟩) i hi rfl ?_; rw [HAT.out])
                  | (refine wpList_lookV_ok _ rfl (.tmp 24) (.tmp 26) 97 35 rfl key64 Tryz.underlying97 (zeroByt _) n fe (HS.out.ents.keep (((Frm.refl [] w).alloc _).alloc _) (by simp)) k hk rfl ?_; rw [H1.out, H5.out])
                (with_reducible refine (HQE.out _ (CS.out false true).2.2).mono ?_)
                rintro e w2 ⟨rfl, rfl⟩
                go_wp2
                exact HE.out
        case false =>
          cases m
          case false =>
            rw [if_neg (by decide)] at HO
            cases ev with
            | none =>
              rw [show (Option.isSome (none : Option (List Nat))) = false from rfl] at H5
              have HWR := Lib.hid (WRITE.out HO.out)
              clear SAME WRITE HEQ HO
              go_enter Tryz.func18, Tryz.ntmps18
              go_wp2_with first
                | (refine wpList_lookV _ rfl (.tmp 19) (.tmp 20) 71 99 rfl key64 Tryz.underlying71 (zeroSto _) n f (.inr ⟨mb, rfl, HS.out.map.keep ((Frm.refl [] w).alloc _) (by simp)⟩) i hi rfl ?_; rw [HAT.out])
                | (refine wpList_lookV_ok _ rfl (.tmp 24) (.tmp 26) 97 35 rfl key64 Tryz.underlying97 (zeroByt _) n fe (HS.out.ents.keep (((Frm.refl [] w).alloc _).alloc _) (by simp)) k hk rfl ?_; rw [H1.out, H5.out])
              (with_reducible refine (HWR.out _ (CS.out false false).2.2).mono ?_)
              rintro e w2 ⟨ar, rn, cr, rfl, hc⟩
              have HC := Lib.hid hc
              clear hc HWR
              go_wp2_with fail
              (with_reducible refine HC.out.mono ?_)
              rintro e w3 ⟨nn, rfl, hq⟩
              have HE := Lib.hid hq
              clear hq HC
              go_wp2
              exact HE.out
            | some d0 =>
              rw [show (Option.isSome (some d0)) = true from rfl] at H5
              by_cases hdd : d0 = d
              · have HQE : Hid (∀ z, Frm [] w z → Calls Tryz.prog 42 #[.slice a0 n0 cap0, .slice a len cap] z fun e w' => e = .returned (.bool true) ∧ z = w') := Lib.hid fun z hz => by
                  have := HEQ.out z hz
                  rw [decide_eq_true (show (some d0).getD [] = d from hdd)] at this
                  exact this
                by_cases hss : s ≤ sv
                · have HE := Lib.hid (SAME.out 0 _ (HO.out.trans ((if_pos hdd).trans (if_pos hss))) (CS.out false false).2.2)
                  clear SAME WRITE HO HEQ hdd
                  go_enter Tryz.func18, Tryz.ntmps18
                  go_wp2_with first
                    | (refine wpList_lookV _ rfl (.tmp 19) (.tmp 20) 71 99 rfl key64 Tryz.underlying71 (zeroSto _) n f (.inr ⟨mb, rfl, HS.out.map.keep ((Frm.refl [] w).alloc _) (by simp)⟩) i hi rfl ?_; rw [HAT.out])
                    | (refine wpList_lookV_ok _ rfl (.tmp 24) (.tmp 26) 97 35 rfl key64 Tryz.underlying97 (zeroByt _) n fe (HS.out.ents.keep (((Frm.refl [] w).alloc _).alloc _) (by simp)) k hk rfl ?_; rw [H1.out, H5.out])
                  (with_reducible refine (HQE.out _ (CS.out false false).2.2).mono ?_)
                  rintro e w2 ⟨rfl, rfl⟩
                  go_wp2
                  exact HE.out
                · have HWR := Lib.hid (WRITE.out (HO.out.trans ((if_pos hdd).trans (if_neg hss))))
                  clear SAME WRITE HO HEQ hdd
                  go_enter Tryz.func18, Tryz.ntmps18
                  go_wp2_with first
                    | (refine wpList_lookV _ rfl (.tmp 19) (.tmp 20) 71 99 rfl key64 Tryz.underlying71 (zeroSto _) n f (.inr ⟨mb, rfl, HS.out.map.keep ((Frm.refl [] w).alloc _) (by simp)⟩) i hi rfl ?_; rw [HAT.out])
                    | (refine wpList_lookV_ok _ rfl (.tmp 24) (.tmp 26) 97 35 rfl key64 Tryz.underlying97 (zeroByt _) n fe (HS.out.ents.keep (((Frm.refl [] w).alloc _).alloc _) (by simp)) k hk rfl ?_; rw [H1.out, H5.out])
                  (with_reducible refine (HQE.out _ (CS.out false false).2.2).mono ?_)
                  rintro e w2 ⟨rfl, rfl⟩
                  go_wp2_with fail
                  (with_reducible refine (HWR.out _ (CS.out false false).2.2).mono ?_)
                  rintro e w2 ⟨ar, rn, cr, rfl, hc⟩
                  have HC := Lib.hid hc
                  clear hc HWR
                  go_wp2_with fail
                  (with_reducible refine HC.out.mono ?_)
                  rintro e w3 ⟨nn, rfl, hq⟩
                  have HE := Lib.hid hq
                  clear hq HC
                  go_wp2
                  exact HE.out
              · have HQE : Hid (∀ z, Frm [] w z → Calls Tryz.prog 42 #[.slice a0 n0 cap0, .slice a len cap] z fun e w' => e = .returned (.bool false) ∧ z = w') := Lib.hid fun z hz => by
                  have := HEQ.out z hz
                  rw [decide_eq_false (show ¬ (some d0).getD [] = d from hdd)] at this
                  exact this
                have HE := Lib.hid (SAME.out 21 _ (HO.out.trans (if_neg hdd)) (CS.out false false).2.2)
                clear SAME WRITE HO HEQ hdd
                go_enter Tryz.func18, Tryz.ntmps18
                go_wp2_with first
                  | (refine wpList_lookV _ rfl (.tmp 19) (.tmp 20) 71 99 rfl key64 Tryz.underlying71 (zeroSto _) n f (.inr ⟨mb, rfl, HS.out.map.keep ((Frm.refl [] w).alloc _) (by simp)⟩) i hi rfl ?_; rw [HAT.out])
                  | (refine wpList_lookV_ok _ rfl (.tmp 24) (.tmp 26) 97 35 rfl key64 Tryz.underlying97 (zeroByt _) n fe (HS.out.ents.keep (((Frm.refl [] w).alloc _).alloc _) (by simp)) k hk rfl ?_; rw [H1.out, H5.out])
                (with_reducible refine (HQE.out _ (CS.out false false).2.2).mono ?_)
                rintro e w2 ⟨rfl, rfl⟩
                go_wp2
                exact HE.out
          case true =>
            rw [if_neg (by decide)] at HO
            cases ev with
            | none =>
              rw [show (Option.isSome (none : Option (List Nat))) = false from rfl] at H5
              have HWR := Lib.hid (WRITE.out HO.out)
              clear SAME WRITE HEQ HO
              go_enter Tryz.func18, Tryz.ntmps18
              go_wp2_with first
                | (refine wpList_lookV _ rfl (.tmp 19) (.tmp 20) 71 99 rfl key64 Tryz.underlying71 (zeroSto _) n f (.inr ⟨mb, rfl, HS.out.map.keep ((Frm.refl [] w).alloc _) (by simp)⟩) i hi rfl ?_; rw [HAT.out])
                | (refine wpList_lookV_ok _ rfl (.tmp 24) (.tmp 26) 97 35 rfl key64 Tryz.underlying97 (zeroByt _) n fe (HS.out.ents.keep (((Frm.refl [] w).alloc _).alloc _) (by simp)) k hk rfl ?_; rw [H1.out, H5.out])
              (with_reducible refine (HWR.out _ (CS.out false false).2.2).mono ?_)
              rintro e w2 ⟨ar, rn, cr, rfl, hc⟩
              have HC := Lib.hid hc
              clear hc HWR
              go_wp2_with fail
              (with_reducible refine HC.out.mono ?_)
              rintro e w3 ⟨nn, rfl, hq⟩
              have HE := Lib.hid hq
              clear hq HC
              go_wp2
              exact HE.out
            | some d0 =>
              rw [show (Option.isSome (some d0)) = true from rfl] at H5
              by_cases hdd : d0 = d
              · have HQE : Hid (∀ z, Frm [] w z → Calls Tryz.prog 42 #[.slice a0 n0 cap0, .slice a len cap] z fun e w' => e = .returned (.bool true) ∧ z = w') := Lib.hid fun z hz => by
                  have := HEQ.out z hz
                  rw [decide_eq_true (show (some d0).getD [] = d from hdd)] at this
                  exact this
                by_cases hss : s ≤ sv
                · have HE := Lib.hid (SAME.out 0 _ (HO.out.trans ((if_pos hdd).trans (if_pos hss))) (CS.out false false).2.2)
                  clear SAME WRITE HO HEQ hdd
                  go_enter Tryz.func18, Tryz.ntmps18
                  go_wp2_with first
                    | (refine wpList_lookV _ rfl (.tmp 19) (.tmp 20) 71 99 rfl key64 Tryz.underlying71 (zeroSto _) n f (.inr ⟨mb, rfl, HS.out.map.keep ((Frm.refl [] w).alloc _) (by simp)⟩) i hi rfl ?_; rw [HAT.out])
                    | (refine wpList_lookV_ok _ rfl (.tmp 24) (.tmp 26) 97 35 rfl key64 Tryz.underlying97 (zeroByt _) n fe (HS.out.ents.keep (((Frm.refl [] w).alloc _).alloc _) (by simp)) k hk rfl ?_; rw [H1.out, H5.out])
                  (with_reducible refine (HQE.out _ (CS.out false false).2.2).mono ?_)
                  rintro e w2 ⟨rfl, rfl⟩
                  go_wp2
                  exact HE.out
                · have HWR := Lib.hid (WRITE.out (HO.out.trans ((if_pos hdd).trans (if_neg hss))))
                  clear SAME WRITE HO HEQ hdd
                  go_enter Tryz.func18, Tryz.ntmps18
                  go_wp2_with first
                    | (refine wpList_lookV _ rfl (.tmp 19) (.tmp 20) 71 99 rfl key64 Tryz.underlying71 (zeroSto _) n f (.inr ⟨mb, rfl, HS.out.map.keep ((Frm.refl [] w).alloc _) (by simp)⟩) i hi rfl ?_; rw [HAT.out])
                    | (refine wpList_lookV_ok _ rfl (.tmp 24) (.tmp 26) 97 35 rfl key64 Tryz.underlying97 (zeroByt _) n fe (HS.out.ents.keep (((Frm.refl [] w).alloc _).alloc _) (by simp)) k hk rfl ?_; rw [H1.out, H5.out])
                  (with_reducible refine (HQE.out _ (CS.out false false).2.2).mono ?_)
                  rintro e w2 ⟨rfl, rfl⟩
                  go_wp2_with fail
                  (with_reducible refine (HWR.out _ (CS.out false false).2.2).mono ?_)
                  rintro e w2 ⟨ar, rn, cr, rfl, hc⟩
                  have HC := Lib.hid hc
                  clear hc HWR
                  go_wp2_with fail
                  (with_reducible refine HC.out.mono ?_)
                  rintro e w3 ⟨nn, rfl, hq⟩
                  have HE := Lib.hid hq
                  clear hq HC
                  go_wp2
                  exact HE.out
              · have HQE : Hid (∀ z, Frm [] w z → Calls Tryz.prog 42 #[.slice a0 n0 cap0, .slice a len cap] z fun e w' => e = .returned (.bool false) ∧ z = w') := Lib.hid fun z hz => by
                  have := HEQ.out z hz
                  rw [decide_eq_false (show ¬ (some d0).getD [] = d from hdd)] at this
                  exact this
                have HE := Lib.hid (SAME.out 21 _ (HO.out.trans (if_neg hdd)) (CS.out false false).2.2)
                clear SAME WRITE HO HEQ hdd
                go_enter Tryz.func18, Tryz.ntmps18
                go_wp2_with first
                  | (refine wpList_lookV _ rfl (.tmp 19) (.tmp 20) 71 99 rfl key64 Tryz.underlying71 (zeroSto _) n f (.inr ⟨mb, rfl, HS.out.map.keep ((Frm.refl [] w).alloc _) (by simp)⟩) i hi rfl ?_; rw [HAT.out])
                  | (refine wpList_lookV_ok _ rfl (.tmp 24) (.tmp 26) 97 35 rfl key64 Tryz.underlying97 (zeroByt _) n fe (HS.out.ents.keep (((Frm.refl [] w).alloc _).alloc _) (by simp)) k hk rfl ?_; rw [H1.out, H5.out])
                (with_reducible refine (HQE.out _ (CS.out false false).2.2).mono ?_)
                rintro e w2 ⟨rfl, rfl⟩
                go_wp2
                exact HE.out
end Go.Proofs.YtamcandcfainfaaGreat
/- A node of the call's own, through all calls (Nv); its crash; a nil one. -/
namespace Go.Proofs.YtamcandcfainfaaGreat
open Go.RowKit
set_option maxRecDepth 100000

/-- From w0 on only new blocks are written; the node at p with the disk at dp is S, nothing of it lies in the blocks G. -/
structure Nv (w0 w : World) (G : List Nat) (p dp : Nat) (S : Nd9) (l : List Nat) (room : Nat) : Prop where
  sp : ∃ jq Fd, Sp w w0.heap.size G p jq dp Fd S l room
  frm : Frm [] w0 w
  low : ∀ y ∈ G, y < w.heap.size
section
variable {w0 w w' : World} {G G' : List Nat} {p dp : Nat} {S S' : Nd9} {l l' : List Nat} {room : Nat}
theorem Nv.here (h : Nv w0 w G p dp S l room) (hf : Frm [] w w') : Nv w0 w' G p dp S l room := by
  obtain ⟨jq, Fd, hs⟩ := h.sp
  exact ⟨⟨jq, Fd, hs.here hf⟩, h.frm.trans hf (by simp) (by simp), fun y hy => Nat.lt_of_lt_of_le (h.low y hy) hf.size⟩
theorem Nv.keep {T : List Nat} (h : Nv w0 w G p dp S l room) (hf : Frm T w w') (hT : ∀ x ∈ T, (x ∈ G ∨ w.heap.size ≤ x) ∧ w0.heap.size ≤ x) (hG : ∀ x ∈ G', x ∈ G ∨ w.heap.size ≤ x) (hl : ∀ x ∈ G', x < w'.heap.size) : Nv w0 w' G' p dp S l room := by
  obtain ⟨jq, Fd, hs⟩ := h.sp
  exact ⟨⟨jq, Fd, hs.keep hf (fun x hx => (hT x hx).1) hG⟩, h.frm.trans hf (by simp) (fun x hx => .inr (hT x hx).2), hl⟩
theorem Nv.act {jq : Nat} {Fd : List Nat} (h : Nv w0 w G p dp S l room) (ha : SAct w w0.heap.size G p jq dp Fd S' l' room w') : Nv w0 w' G p dp S' l' room := by
  obtain ⟨Fd', T, hs, hf, hT, _⟩ := ha
  exact ⟨⟨jq, Fd', hs⟩, h.frm.trans hf (by simp) (fun x hx => .inr (hT x hx).2), fun y hy => Nat.lt_of_lt_of_le (h.low y hy) hf.size⟩
/-- What a call writes lies outside of G, and is new since w0. -/
def Off (w0 w w' : World) (G : List Nat) : Prop := ∃ T, Frm T w w' ∧ ∀ y ∈ T, y ∉ G ∧ w0.heap.size ≤ y
theorem Off.of {jq : Nat} {Fd : List Nat} (ha : SAct w w0.heap.size G p jq dp Fd S' l' room w') : Off w0 w w' G := by
  obtain ⟨Fd', T, _, hf, hT, _⟩ := ha
  exact ⟨T, hf, hT⟩
theorem Off.here (hf : Frm [] w w') : Off w0 w w' G := ⟨[], hf, by simp⟩
end

theorem nv_new {w0 w : World} {dp room : Nat} (G : List Nat) (hf0 : Frm [] w0 w) (h : Dk w w0.heap.size dp [dp] [] 0 room) (hG : ∀ x ∈ G, x < w.heap.size) (hGF : dp ∉ G) :
    Calls Tryz.prog 7 #[.pointer (some ⟨dp, 0, none⟩)] w fun e w' => ∃ p, e = .returned (.tuple #[.pointer (some ⟨p, 0, none⟩), .int .i64 0]) ∧ Nv w0 w' G p dp nd0 [] room ∧ Frm [dp] w w' := by
  refine (sopen_new G h hG hGF).mono ?_
  rintro e w' ⟨p, jq, Fd, he, hs, hf, hx, _⟩
  have hdw := (h.lt dp (by simp)).1
  exact ⟨p, he, ⟨⟨jq, Fd, hs⟩, hf0.trans hf (by simp) (fun x hx => by simp at hx; subst hx; exact .inr hdw), fun y hy => Nat.lt_of_lt_of_le (hG y hy) hf.size⟩, hf⟩
section
variable {w0 w : World} {G : List Nat} {p dp : Nat} {S : Nd9} {l : List Nat} {room : Nat}
theorem nv_add (i k s : Nat) (a : Option Addr) (len cap : Nat) (d : List Nat) (m : Bool) (h : Nv w0 w G p dp S l room) (hi : i < N64) (hk : k < N64) (hsu : s < N64) (hb : Bytes w a d) (hlen : len = d.length) (hnil : a = none → cap = 0) :
    Calls Tryz.prog 18 #[.pointer (some ⟨p, 0, none⟩), .int .u64 (i : Nat), .agg #[.int .u64 (k : Nat), .slice a len cap], .int .u64 (s : Nat), .bool m] w fun e w' => e = .returned (.int .i64 (oE l room (addO S i k s d m) (recA i k s d) : Nat)) ∧ Nv w0 w' G p dp (oS S l room (addO S i k s d m) (recA i k s d) i (addL (S i) k s d)) (oL l room (addO S i k s d m) (recA i k s d)) room ∧ Off w0 w w' G := by
  obtain ⟨jq, Fd, hs⟩ := h.sp
  refine (scadd_any i k s a len cap d m hi hk hsu hs h.low hb hlen hnil).mono ?_
  rintro e w' ⟨he, ha⟩
  exact ⟨he, h.act ha, Off.of ha⟩
theorem nv_fence (i : Nat) (h : Nv w0 w G p dp S l room) (hi : i < N64) :
    Calls Tryz.prog 19 #[.pointer (some ⟨p, 0, none⟩), .int .u64 (i : Nat)] w fun e w' => e = .returned (.tuple #[.int .u64 (fenN S l room i : Nat), .int .i64 (oE l room (fenO S i) (recW 2 i) : Nat)]) ∧ Nv w0 w' G p dp (oS S l room (fenO S i) (recW 2 i) i (fenL (S i))) (oL l room (fenO S i) (recW 2 i)) room ∧ Off w0 w w' G := by
  obtain ⟨jq, Fd, hs⟩ := h.sp
  refine (sfence_any i hi hs h.low).mono ?_
  rintro e w' ⟨he, ha⟩
  exact ⟨he, h.act ha, Off.of ha⟩
theorem nv_drop (i : Nat) (h : Nv w0 w G p dp S l room) (hi : i < N64) :
    Calls Tryz.prog 23 #[.pointer (some ⟨p, 0, none⟩), .int .u64 (i : Nat)] w fun e w' => e = .returned (.int .i64 (oE l room (dropO S i) (recW 3 i) : Nat)) ∧ Nv w0 w' G p dp (oS S l room (dropO S i) (recW 3 i) i dropL) (oL l room (dropO S i) (recW 3 i)) room ∧ Off w0 w w' G := by
  obtain ⟨jq, Fd, hs⟩ := h.sp
  refine (sdrop_any i hi hs h.low).mono ?_
  rintro e w' ⟨he, ha⟩
  exact ⟨he, h.act ha, Off.of ha⟩
theorem nv_about (i : Nat) (h : Nv w0 w G p dp S l room) (hi : i < N64) :
    Calls Tryz.prog 25 #[.pointer (some ⟨p, 0, none⟩), .int .u64 (i : Nat)] w fun e w' => e = .returned (.tuple #[.bool (S i).fen, .bool (S i).gone, .int .u64 ((S i).sure : Nat)]) ∧ Frm [] w w' := by
  obtain ⟨jq, Fd, hs⟩ := h.sp
  exact sabout_any i hi hs
/-- No entry has more bytes than a slice may have. -/
theorem Nv.fits (h : Nv w0 w G p dp S l room) (i k : Nat) (hi : i < N64) (hk : k < N64) : ∀ d, lookE (S i).ents k = some d → d.length ≤ maxLen := by
  obtain ⟨jq, Fd, hs⟩ := h.sp
  obtain ⟨mb, f, o, fe, hst⟩ := hs.stock hi
  intro d hd
  have h1 := hst.ent k hk
  rw [hd] at h1
  rcases h1 with ⟨_, h2⟩ | ⟨a, cap, d', _, h2, hb, _⟩
  · cases h2
  · cases h2
    have := hb.2.1
    unfold maxLen; omega
/-- The disk falls, all being sure; another node is opened on it. -/
theorem nv_crash (keep bit : Int) (h : Nv w0 w G p dp S l room) :
    Calls Tryz.prog 12 #[.pointer (some ⟨dp, 0, none⟩), .int .i64 keep, .int .i64 bit] w fun e w' => e = .returned (.tuple #[]) ∧ (∃ Fd, Dk w' w0.heap.size dp Fd l l.length room ∧ ∀ x ∈ Fd, x ∉ G) ∧ Frm [] w0 w' ∧ (recN l = l.length ∧ sayAll nd0 (recs l) = some S) ∧ (∀ y ∈ G, y < w'.heap.size) ∧ Off w0 w w' G := by
  obtain ⟨jq, Fd, hs⟩ := h.sp
  have hc : crashed l l.length keep bit = l := by
    have h0 : keptN l l.length keep = 0 := by unfold keptN; omega
    rw [crashed_plain (by omega), h0, Nat.add_zero, List.take_length]
  have := crash_any keep bit hs.dk
  rw [hc] at this
  refine this.mono ?_
  rintro e w' ⟨he, Fd', hd, hf, hx⟩
  have hFd : ∀ x ∈ Fd, x ∉ G ∧ w0.heap.size ≤ x := fun x hx => hs.out x (by simp [hx])
  refine ⟨he, ⟨Fd', hd, fun x hx' hm => ?_⟩, h.frm.trans hf (by simp) (fun x hx => .inr (hFd x hx).2), hs.says, fun y hy => Nat.lt_of_lt_of_le (h.low y hy) hf.size, ⟨Fd, hf, hFd⟩⟩
  rcases hx x hx' with h1 | h1
  · exact (hFd x h1).1 hm
  · have := h.low x hm; omega
theorem nv_again {Fd : List Nat} (hf0 : Frm [] w0 w) (h : Dk w w0.heap.size dp Fd l l.length room) (hGF : ∀ x ∈ Fd, x ∉ G) (hG : ∀ y ∈ G, y < w.heap.size) (hsay : recN l = l.length ∧ sayAll nd0 (recs l) = some S) :
    Calls Tryz.prog 7 #[.pointer (some ⟨dp, 0, none⟩)] w fun e w' => ∃ p, e = .returned (.tuple #[.pointer (some ⟨p, 0, none⟩), .int .i64 0]) ∧ Nv w0 w' G p dp S l room ∧ Off w0 w w' G := by
  refine (sopen_any G h hG hGF).mono ?_
  rintro e w' (⟨S', p, jq, Fd', hs, he, hsp, hf, hx, _⟩ | ⟨hs, _⟩)
  · rw [hsay.2] at hs
    cases hs
    rw [hsay.1, List.take_length] at hsp
    have hFd : ∀ x ∈ Fd, x ∉ G ∧ w0.heap.size ≤ x := fun x hx => ⟨hGF x hx, (h.lt x hx).1⟩
    exact ⟨p, he, ⟨⟨jq, Fd', hsp⟩, hf0.trans hf (by simp) (fun x hx => .inr (hFd x hx).2), fun y hy => Nat.lt_of_lt_of_le (hG y hy) hf.size⟩, ⟨Fd, hf, hFd⟩⟩
  · rw [hsay.2] at hs; cases hs
end

/-! A nil one. -/
end Go.Proofs.YtamcandcfainfaaGreat
/- Entries of a node that records said have at most 4096 bytes; contract of Read so. -/
namespace Go.Proofs.YtamcandcfainfaaGreat
open Go.RowKit
set_option maxRecDepth 100000

/-- All entries are short. -/
def Small9 (S : Nd9) : Prop := ∀ i k d, lookE (S i).ents k = some d → d.length ≤ 4096
theorem tB_len {l d m : List Nat} (h : tB l = some (d, m)) : d.length ≤ l.length := by
  unfold tB at h
  by_cases h1 : l.length < 4
  · rw [if_pos h1] at h; cases h
  · rw [if_neg h1] at h
    by_cases h2 : l.length - 4 < val (l.take 4)
    · rw [if_pos h2] at h; cases h
    · rw [if_neg h2] at h
      cases h
      rw [List.length_take, List.length_drop]; omega
theorem tU_len {k n : Nat} {l m : List Nat} (h : tU k l = some (n, m)) : m.length ≤ l.length := by
  unfold tU at h
  by_cases h1 : l.length < k
  · rw [if_pos h1] at h; cases h
  · rw [if_neg h1] at h
    cases h
    rw [List.length_drop]; omega
theorem sayL_small {l x : Lg} {k : Nat} {b m : List Nat} (h : sayL l k b = some (x, m)) (hl : ∀ j d, lookE l.ents j = some d → d.length ≤ 4096) (hb : b.length ≤ 4096) : ∀ j d, lookE x.ents j = some d → d.length ≤ 4096 := by
  unfold sayL at h
  by_cases h1 : k = 1
  · rw [if_pos h1] at h
    cases e1 : tU 8 b with
    | none => rw [e1] at h; cases h
    | some a1 =>
      obtain ⟨n1, m1⟩ := a1
      rw [e1] at h
      simp only [Option.bind_some] at h
      cases e2 : tU 8 m1 with
      | none => rw [e2] at h; cases h
      | some a2 =>
        obtain ⟨n2, m2⟩ := a2
        rw [e2] at h
        simp only [Option.bind_some] at h
        cases e3 : tB m2 with
        | none => rw [e3] at h; cases h
        | some a3 =>
          obtain ⟨d3, m3⟩ := a3
          rw [e3] at h
          simp only [Option.bind_some, Option.some.injEq, Prod.mk.injEq] at h
          obtain ⟨rfl, rfl⟩ := h
          have l1 := tU_len e1
          have l2 := tU_len e2
          have l3 := tB_len e3
          intro j d hd
          rw [show (addL l n1 n2 d3).ents = putE l.ents n1 d3 from rfl, lookE_put] at hd
          by_cases hj : j = n1
          · rw [if_pos hj] at hd; cases hd; omega
          · rw [if_neg hj] at hd; exact hl j d hd
  · rw [if_neg h1] at h
    by_cases h2 : k = 2
    · rw [if_pos h2] at h; cases h; exact hl
    · rw [if_neg h2] at h
      by_cases h3 : k = 3
      · rw [if_pos h3] at h; cases h
        intro j d hd
        cases hd
      · rw [if_neg h3] at h; cases h
theorem say1_small {S S' : Nd9} {b : List Nat} (h : say1 S b = some S') (hS : Small9 S) (hb : b.length ≤ 4096) : Small9 S' := by
  unfold say1 at h
  cases e : shPre S b with
  | none => rw [e] at h; cases h
  | some r =>
    obtain ⟨i, x, m⟩ := r
    rw [e] at h
    dsimp only at h
    by_cases hm : m = []
    · rw [if_pos hm] at h
      cases h
      unfold shPre at e
      cases e1 : tU 1 b with
      | none => rw [e1] at e; cases e
      | some a1 =>
        obtain ⟨n1, m1⟩ := a1
        rw [e1] at e
        simp only [Option.bind_some] at e
        cases e2 : tU 8 m1 with
        | none => rw [e2] at e; cases e
        | some a2 =>
          obtain ⟨n2, m2⟩ := a2
          rw [e2] at e
          simp only [Option.bind_some] at e
          by_cases hg : (S n2).gone = true
          · rw [if_pos hg] at e; cases e
          · rw [if_neg hg] at e
            cases e3 : sayL (S n2) n1 m2 with
            | none => rw [e3] at e; cases e
            | some a3 =>
              obtain ⟨x3, m3⟩ := a3
              rw [e3] at e
              simp only [Option.map_some, Option.some.injEq, Prod.mk.injEq] at e
              obtain ⟨rfl, rfl, rfl⟩ := e
              have l1 := tU_len e1
              have l2 := tU_len e2
              intro j k d hd
              unfold updS at hd
              by_cases hj : j = n2
              · rw [if_pos hj] at hd
                exact sayL_small e3 (hS n2) (by omega) k d hd
              · rw [if_neg hj] at hd; exact hS j k d hd
    · rw [if_neg hm] at h; cases h
theorem sayAll_small {M : List (List Nat)} : ∀ {S S' : Nd9}, sayAll S M = some S' → Small9 S → Fit M → Small9 S' := by
  induction M with
  | nil => intro S S' h hS _; cases h; exact hS
  | cons b M ih =>
    intro S S' h hS hf
    unfold sayAll at h
    cases e : say1 S b with
    | none => rw [e] at h; cases h
    | some S1 =>
      rw [e] at h
      exact ih h (say1_small e hS (hf.cons.1.1)) hf.cons.2
section
variable {w0 w : World} {G : List Nat} {p dp : Nat} {S : Nd9} {l : List Nat} {room : Nat}
theorem Sp.small {B jq : Nat} {Fd : List Nat} (h : Sp w B G p jq dp Fd S l room) : Small9 S :=
  sayAll_small h.says.2 (fun i k d hd => by cases hd) (recs_whole l h.dk.1.1).2.1
theorem Nv.small (h : Nv w0 w G p dp S l room) : Small9 S := by
  obtain ⟨jq, Fd, hs⟩ := h.sp
  exact hs.small
theorem nv_read (i k : Nat) (h : Nv w0 w G p dp S l room) (hi : i < N64) (hk : k < N64) :
    Calls Tryz.prog 20 #[.pointer (some ⟨p, 0, none⟩), .int .u64 (i : Nat), .int .u64 (k : Nat)] w fun e w' => ∃ a n c, e = .returned (.tuple #[.slice a n c, .bool (lookE (S i).ents k).isSome]) ∧ n = ((lookE (S i).ents k).getD []).length ∧ w'.ownsRow w.heap.size 5 1 (.slice a n c) n (((lookE (S i).ents k).getD []).map u8v) ∧ (∀ c ∈ (lookE (S i).ents k).getD [], c < 256) ∧ Frm [] w w' := by
  obtain ⟨jq, Fd, hs⟩ := h.sp
  exact sread_any i k hi hk hs (fun d hd => by have := hs.small i k d hd; omega)
end
theorem jc_small9 {l b : List Nat} {room : Nat} (h1 : b.length ≤ 4096) (h2 : l.length + (b.length + 8) ≤ room) : jc l b room = 0 := by
  unfold jc
  rw [if_neg (by omega), if_neg (by omega)]
/-- A call whose record fits. -/
theorem oE_zero {l b : List Nat} {room : Nat} (h1 : b.length ≤ 4096) (h2 : l.length + (b.length + 8) ≤ room) : oE l room none b = 0 := jc_small9 h1 h2
theorem oS_done {S : Nd9} {l b : List Nat} {room i : Nat} {x : Lg} (h1 : b.length ≤ 4096) (h2 : l.length + (b.length + 8) ≤ room) : oS S l room none b i x = updS S i x := by
  rw [oS_none]; unfold swS; rw [if_pos (jc_small9 h1 h2)]
theorem oL_done {l b : List Nat} {room : Nat} (h1 : b.length ≤ 4096) (h2 : l.length + (b.length + 8) ≤ room) : oL l room none b = l ++ fr b := by
  rw [oL_none]; unfold jl; rw [if_pos (jc_small9 h1 h2)]
end Go.Proofs.YtamcandcfainfaaGreat
/- Contract of Awake (the fixed fact of layer 9). -/
namespace Go.Proofs.YtamcandcfainfaaGreat
open Go.RowKit
set_option maxRecDepth 100000

theorem u8_at9 (w : World) (x : Nat) (hx : x < 256) (t : TypeId) (m : Nat × Nat) : Bytes (w.alloc (.cells #[.int .u8 x] t m)) (some ⟨w.heap.size, 0, none⟩) [x] := by
  refine ⟨by simp [hx], by simp, .inr ⟨_, _, rfl, fun i hi => ?_⟩⟩
  rw [cell_of_row _ w.heap.size _ #[.int .u8 (x : Int)] t m (heap_alloc_new w _)]
  simp at hi
  subst hi
  simp
theorem str_b9 : strOf [98] = ⟨#[98]⟩ := by decide
/-- The states of the fixed fact. -/
def an1 : Nd9 := updS nd0 5 (addL {} 0 0 [97])
def an2 : Nd9 := updS an1 5 (fenL (addL {} 0 0 [97]))
def an3 : Nd9 := updS an2 5 (addL (fenL (addL {} 0 0 [97])) 1 0 [98])

set_option maxHeartbeats 4000000 in
theorem awake9_any (w : World) : Calls Tryz.prog 5 #[] w fun e w' => e = .returned (.bool true) ∧ Below w.heap.size w w' := by
  have kc := fun (w : World) (C : Array Value) (n c : Nat) => Lib.run_convert_bytes_const (P := Tryz.prog) w 35 5 C n c Tryz.underlying35 Tryz.underlying5
  have HN := Lib.hid (new_ok 1000 w (by omega))
  rw [show ((1000 : Nat) : Int) = 1000 from rfl] at HN
  go_enter Tryz.func5, Tryz.ntmps5
  go_wp2_with fail
  (with_reducible refine HN.out.mono ?_)
  rintro e w1 ⟨rfl, hd1, hf1, hz1⟩
  have HO := Lib.hid (nv_new [] hf1 hd1 (by simp) (by simp))
  obtain ⟨dp, hdp⟩ : ∃ dp, dp = w.heap.size := ⟨_, rfl⟩
  rw [← hdp] at HO ⊢
  clear hd1 hf1 hz1 HN
  have HDP := Lib.hid hdp
  clear hdp
  go_wp2_with fail
  (with_reducible refine HO.out.mono ?_)
  rintro e w2 ⟨p, rfl, hv2, _⟩
  have L1 : (recA 5 0 0 [97]).length = 30 := recA_len _ _ _ _
  have hfa : Frm [] w2 (w2.alloc (.cells #[.int .u8 97] 5 (1, 2))) := (Frm.refl _ _).alloc _
  have HA := nv_add 5 0 0 (some ⟨w2.heap.size, 0, none⟩) 1 1 [97] false (hv2.here hfa) (by decide) (by decide) (by decide) (u8_at9 w2 97 (by omega) _ _) rfl (by simp)
  rw [show addO nd0 5 0 0 [97] false = none from rfl, oE_zero (by omega) (by simp only [List.length_nil]; omega), oS_done (by omega) (by simp only [List.length_nil]; omega), oL_done (by omega) (by simp only [List.length_nil]; omega), List.nil_append, show updS nd0 5 (addL (nd0 5) 0 0 [97]) = an1 from rfl] at HA
  rw [show ((5 : Nat) : Int) = 5 from rfl, show ((0 : Nat) : Int) = 0 from rfl] at HA
  have HA := Lib.hid HA
  have HL1 := Lib.hid L1
  clear hv2 HO hfa L1
  go_wp2_with fail
  (with_reducible refine HA.out.mono ?_)
  rintro e w3 ⟨rfl, hv3, _⟩
  have l1 : (fr (recA 5 0 0 [97])).length = 38 := by rw [fr_length]; have := HL1.out; omega
  have L2 := recW_len 2 5
  have HF := nv_fence 5 hv3 (by decide)
  unfold fenN at HF
  rw [show fenO an1 5 = none from rfl, oE_zero (by omega) (by omega), oS_done (by omega) (by omega), oL_done (by omega) (by omega), if_pos rfl, show (an1 5).sure = 0 from rfl, show updS an1 5 (fenL (an1 5)) = an2 from rfl] at HF
  rw [show ((5 : Nat) : Int) = 5 from rfl, show ((0 : Nat) : Int) = 0 from rfl] at HF
  have HF := Lib.hid HF
  have HL2 := Lib.hid (show (fr (recA 5 0 0 [97])).length = 38 ∧ (recW 2 5).length = 9 from ⟨l1, L2⟩)
  clear hv3 HA L2 l1 HL1
  go_wp2_with fail
  (with_reducible refine HF.out.mono ?_)
  rintro e w4 ⟨rfl, hv4, _⟩
  have l2 : (fr (recA 5 0 0 [97]) ++ fr (recW 2 5)).length = 55 := by rw [List.length_append, fr_length (recW 2 5)]; have := HL2.out; omega
  have hfa : Frm [] w4 (w4.alloc (.cells #[.int .u8 98] 5 (1, 2))) := (Frm.refl _ _).alloc _
  have HA := nv_add 5 1 0 (some ⟨w4.heap.size, 0, none⟩) 1 1 [98] false (hv4.here hfa) (by decide) (by decide) (by decide) (u8_at9 w4 98 (by omega) _ _) rfl (by simp)
  rw [show addO an2 5 1 0 [98] false = some 20 from rfl, oS_some, oL_some, show ∀ l b, oE l 1000 (some 20) b = 20 from fun _ _ => rfl] at HA
  rw [show ((5 : Nat) : Int) = 5 from rfl, show ((0 : Nat) : Int) = 0 from rfl, show ((1 : Nat) : Int) = 1 from rfl, show ((20 : Nat) : Int) = 20 from rfl] at HA
  have HA := Lib.hid HA
  have HL3 := Lib.hid l2
  clear hv4 HF hfa l2 HL2
  go_wp2_with fail
  (with_reducible refine HA.out.mono ?_)
  rintro e w5 ⟨rfl, hv5, _⟩
  have L4 : (recA 5 1 0 [98]).length = 30 := recA_len _ _ _ _
  have hfa : Frm [] w5 (w5.alloc (.cells #[.int .u8 98] 5 (1, 2))) := (Frm.refl _ _).alloc _
  have HB := nv_add 5 1 0 (some ⟨w5.heap.size, 0, none⟩) 1 1 [98] true (hv5.here hfa) (by decide) (by decide) (by decide) (u8_at9 w5 98 (by omega) _ _) rfl (by simp)
  have l3 := HL3.out
  rw [show addO an2 5 1 0 [98] true = none from rfl, oE_zero (by omega) (by omega), oS_done (by omega) (by omega), oL_done (by omega) (by omega), show updS an2 5 (addL (an2 5) 1 0 [98]) = an3 from rfl] at HB
  rw [show ((5 : Nat) : Int) = 5 from rfl, show ((0 : Nat) : Int) = 0 from rfl, show ((1 : Nat) : Int) = 1 from rfl] at HB
  have HB := Lib.hid HB
  clear hv5 HA hfa l3 HL3 L4
  go_wp2_with fail
  (with_reducible refine HB.out.mono ?_)
  rintro e w6 ⟨rfl, hv6, _⟩
  have HR := nv_read 5 1 hv6 (by decide) (by decide)
  rw [show lookE (an3 5).ents 1 = some [98] from rfl] at HR
  rw [show ((5 : Nat) : Int) = 5 from rfl, show ((1 : Nat) : Int) = 1 from rfl, show (some [98] : Option (List Nat)).isSome = true from rfl, show (some [98] : Option (List Nat)).getD [] = [98] from rfl, show ([98] : List Nat).length = 1 from rfl] at HR
  have HR := Lib.hid HR
  have HF6 := Lib.hid hv6.frm
  clear hv6 HB
  go_wp2_with fail
  (with_reducible refine HR.out.mono ?_)
  rintro e w7 ⟨a, n, c, rfl, rfl, ho, h8, hf7⟩
  have cv := run_to_string (P := Tryz.prog) (src := 35) (dst := 9) (e := 5) Tryz.underlying35 Tryz.underlying5 Tryz.underlying9 (n := 1) (c := c) (bytes_of_own ho h8).2.1 rfl
  rw [str_b9] at cv
  have HF7 := Lib.hid (HF6.out.trans hf7 (U := []) (by simp) (by simp))
  clear ho h8 hf7 HR HF6
  go_wp2
  go_ret
  exact ⟨rfl, HF7.out.below (by simp) (Nat.le_refl _)⟩
end Go.Proofs.YtamcandcfainfaaGreat
/- The library's sort at rows of uint64, 1: comparing, the insertion sort: each computes its plain twin over the row (Derived/Sort/Defs). -/
namespace Go.Proofs.YtamcandcfainfaaGreat
open Go.RowKit Go.Sort
set_option maxRecDepth 100000

/-- How a number lies in a row. -/
abbrev u6 : Int → Value := Value.int .u64
def numOf : Value → Int | .int _ q => q | _ => 0

set_option maxHeartbeats 1000000 in
theorem nan_any (x : Int) (w : World) : Calls Tryz.prog 115 #[u6 x] w fun e w' => e = .returned (.bool false) ∧ w' = w := by
  go_enter Tryz.func115, Tryz.ntmps115
  go_wp2
  go_ret
  exact ⟨by simp, rfl⟩
set_option maxHeartbeats 1000000 in
theorem less_any (x y : Int) (w : World) : Calls Tryz.prog 104 #[u6 x, u6 y] w fun e w' => e = .returned (.bool (ltInt x y)) ∧ w' = w := by
  go_enter Tryz.func104, Tryz.ntmps104
  go_wp2_with (go_at_call 115; refine (nan_any _ _).mono ?_; rintro e w' ⟨rfl, rfl⟩)
  go_ret
  exact ⟨rfl, rfl⟩

/-! The plain twins, a step at a time. -/
section
variable {α : Type} [Inhabited α] (lt : α → α → Bool)
theorem inner_on {a j : Nat} {d : Array α} (h : a < j) (hl : lt d[j]! d[j - 1]! = true) : insInner lt a j d = insInner lt a (j - 1) (swp d j (j - 1)) := by
  cases j with
  | zero => omega
  | succ k =>
    rw [insInner, if_pos]
    · rfl
    · rw [show k + 1 - 1 = k from rfl] at hl
      rw [hl, Bool.and_true]
      exact decide_eq_true h
theorem inner_end {a j : Nat} {d : Array α} (h : j ≤ a ∨ lt d[j]! d[j - 1]! = false) : insInner lt a j d = d := by
  cases j with
  | zero => rfl
  | succ k =>
    rw [insInner, if_neg]
    rw [show k + 1 - 1 = k from rfl] at h
    intro hc
    rw [Bool.and_eq_true, decide_eq_true_eq] at hc
    rcases h with h | h
    · omega
    · rw [h] at hc
      exact absurd hc.2 (by simp)
theorem outer_on {a b i : Nat} {d : Array α} (h : i < b) : insOuter lt a b i d = insOuter lt a b (i + 1) (insInner lt a i d) := by rw [insOuter, if_pos h]
theorem outer_end {a b i : Nat} {d : Array α} (h : ¬ i < b) : insOuter lt a b i d = d := by rw [insOuter, if_neg h]
end

/-- The row's world: w, n draws on, with d in the row. -/
def rowW (w : World) (n blk off : Nat) (d : Array Int) : World := putRow u6 (Sort.ahead w n) blk off d
theorem rowW_drewN (w : World) (n q blk off : Nat) (d : Array Int) : (rowW w n blk off d).drewN q = rowW w (n + q) blk off d := by
  unfold rowW
  rw [← ahead_ahead, putRow_ahead, putRow_ahead, putRow_ahead]
  rfl
theorem rowW_swap (w : World) (n blk off : Nat) (d : Array Int) (j k : Nat) (hj : j < d.size) (hk : k < d.size) :
    ((rowW w n blk off d).setCell ⟨blk, off + j, none⟩ (u6 d[k]!)).setCell ⟨blk, off + k, none⟩ (u6 d[j]!) = rowW w n blk off (swp d j k) := putRow_swp u6 _ blk off d j k hj hk
theorem rowW_zero {w : World} {blk off : Nat} {d : Array Int} (h : Holds u6 w blk off d) : w = rowW w 0 blk off d := (putRow_self u6 w blk off d h).symm
/-- Its cells. -/
theorem rowW_cell {w : World} {blk off : Nat} {d e : Array Int} (h : Holds u6 w blk off d) (hs : e.size = d.size) (n t : Nat) (ht : t < d.size) :
    (rowW w n blk off e).cell? ⟨blk, off + t, none⟩ = some (u6 e[t]!) ∧ (rowW w n blk off e).frozen? ⟨blk, off + t, none⟩ = false :=
  holds_putRow u6 (Sort.ahead w n) blk off d e (holds_ahead u6 w n blk off d h) hs t (by omega)

set_option maxHeartbeats 4000000 in
theorem ins_any (blk off cap a b : Nat) (d : Array Int) (w : World) (hH : Holds u6 w blk off d) (hab : a ≤ b) (hb : b ≤ d.size) (hsz : d.size < 4611686018427387904) :
    Calls Tryz.prog 98 #[.slice (some ⟨blk, off, none⟩) d.size cap, .int .i64 a, .int .i64 b] w fun e w' =>
      e = .returned (.tuple #[]) ∧ ∃ n, w' = rowW w n blk off (Sort.insertionSort ltInt d a b) := by
  go_enter Tryz.func98, Tryz.ntmps98
  go_wp2
  go_loopw [6] (fun vi wr => ∃ (i n : Nat) (x : Array Int), vi = .int .i64 i ∧ a < i ∧ i ≤ b + 1 ∧ x.size = d.size ∧ Hid (wr = rowW w n blk off x) ∧
      Hid (insOuter ltInt a b i x = insOuter ltInt a b (a + 1) d)) (fun vi _ => b + 1 - (numOf vi).toNat)
  case atStart => exact ⟨a + 1, 0, d, by go_num, by omega, by omega, rfl, Lib.hid (rowW_zero hH), Lib.hid rfl⟩
  case round =>
    obtain ⟨i, n, x, rfl, hai, hib, hsx, HW0, HO⟩ := hrel
    go_wp2
    · go_loopw [7] (fun vj wr2 => ∃ (j m : Nat) (y : Array Int), vj = .int .i64 j ∧ a ≤ j ∧ j ≤ i ∧ y.size = d.size ∧ Hid (wr2 = rowW w m blk off y) ∧
          Hid (insInner ltInt a j y = insInner ltInt a i x)) (fun vj _ => (numOf vj).toNat)
      case atStart => exact ⟨i, n, x, rfl, by omega, Nat.le_refl _, hsx, HW0, Lib.hid rfl⟩
      case round =>
        obtain ⟨j, m, y, rfl, haj, hji, hsy, HW, HI⟩ := hrel
        have hlt : i < b := by assumption
        obtain ⟨G, HG⟩ : ∃ G : Nat → Int, Hid (∀ t, G t = y[t]!) := ⟨fun t => y[t]!, Lib.hid fun _ => rfl⟩
        have hcw : ∀ t, t < d.size → wr.cell? ⟨blk, off + t, none⟩ = some (.int .u64 (G t)) := fun t ht => by
          rw [HW.out, HG.out]; exact (rowW_cell hH hsy m t ht).1
        have hfw : ∀ t, t < d.size → wr.frozen? ⟨blk, off + t, none⟩ = false := fun t ht => by
          rw [HW.out]; exact (rowW_cell hH hsy m t ht).2
        have HOUT : Hid ((j ≤ a ∨ ltInt (G j) (G (j - 1)) = false) → ∀ q, ∃ (i' n' : Nat) (x' : Array Int), Value.int .i64 ((i : Int) + 1) = .int .i64 (i' : Nat) ∧ a < i' ∧ i' ≤ b + 1 ∧ x'.size = d.size ∧
            Hid (wr.drewN q = rowW w n' blk off x') ∧ Hid (insOuter ltInt a b i' x' = insOuter ltInt a b (a + 1) d)) := Lib.hid fun hs q =>
          ⟨i + 1, m + q, y, by go_num, by omega, by omega, hsy, Lib.hid (by rw [HW.out]; exact rowW_drewN _ _ _ _ _ _),
            Lib.hid (by rw [← HO.out, outer_on ltInt hlt, ← HI.out, inner_end ltInt (by rw [← HG.out, ← HG.out]; exact hs)])⟩
        clear hH
        go_wp2
        by_cases hja : a < j
        · go_quiet (first | (go_at_call 104; refine Calls.quiet_of_same (less_any _ _ _)))
          go_wp2
          · have hl : ltInt (G j) (G (j - 1)) = true := by assumption
            go_region
            all_goals go_wp2
            go_roundw
            case rel =>
              refine ⟨j - 1, m + (nq + 1), swp y j (j - 1), by congr 1; omega, by omega, by omega, by rw [size_swp]; exact hsy, Lib.hid ?_, Lib.hid ?_⟩
              · rw [HW.out, HG.out, HG.out, rowW_drewN]
                exact rowW_swap w _ blk off y j (j - 1) (by omega) (by omega)
              · rw [← HI.out, inner_on ltInt hja (by rw [← HG.out, ← HG.out]; exact hl)]
            case measure => simp [numOf]; omega
          · have hl : ltInt (G j) (G (j - 1)) = false := by assumption
            go_roundw
            case rel => exact HOUT.out (Or.inr hl) nq
            case measure => simp [numOf]; omega
        · go_quiet (first | (go_at_call 104; refine Calls.quiet_of_same (less_any _ _ _)))
          go_wp2
          go_roundw
          case rel => exact HOUT.out (Or.inl (by omega)) nq
          case measure => simp [numOf]; omega
    · have hge : ¬ i < b := by assumption
      go_end0
      exact ⟨rfl, n, by unfold Sort.insertionSort; rw [← HO.out, outer_end ltInt hge, HW0.out]⟩
end Go.Proofs.YtamcandcfainfaaGreat
/- The library's sort at rows of uint64, 5: two places by their order, the median of three; a counter of swaps behind a pointer. -/
namespace Go.Proofs.YtamcandcfainfaaGreat
open Go.RowKit Go.Sort
set_option maxRecDepth 1000000

/-- Behind a call that turned other blocks alone the row is what it was. -/
theorem holds_frm {S : List Nat} {w w' : World} {blk off : Nat} {x : Array Int} (h : Holds u6 w blk off x) (hf : Frm S w w') (hS : blk ∉ S) : Holds u6 w' blk off x := by
  intro j hj
  obtain ⟨h1, h2⟩ := h j hj
  have hlt : blk < w.heap.size := block_lt_of_cell (a := ⟨blk, off + j, none⟩) h1
  exact ⟨(hf.cell (p := ⟨blk, off + j, none⟩) hlt hS).trans h1, (hf.frozen (p := ⟨blk, off + j, none⟩) hlt hS).trans h2⟩

/-- A counter. -/
def Cnt (w : World) (s n : Nat) : Prop := w.cell? ⟨s, 0, none⟩ = some (.int .i64 (n : Int)) ∧ w.frozen? ⟨s, 0, none⟩ = false

set_option maxHeartbeats 4000000 in
theorem order2_any (blk off cap len a b s n : Nat) (x : Array Int) (w : World) (hlen : x.size = len) (hH : Holds u6 w blk off x) (ha : a < len) (hb : b < len) (hC : Cnt w s n) (hn : n < 1000) :
    Calls Tryz.prog 116 #[.slice (some ⟨blk, off, none⟩) len cap, .int .i64 a, .int .i64 b, .pointer (some ⟨s, 0, none⟩)] w fun e w' =>
      e = .returned (.tuple #[.int .i64 ((Sort.order2 ltInt x a b n).1 : Nat), .int .i64 ((Sort.order2 ltInt x a b n).2.1 : Nat)]) ∧ Frm [s] w w' ∧ Cnt w' s (Sort.order2 ltInt x a b n).2.2 := by
  obtain ⟨G, HG⟩ : ∃ G : Nat → Int, Hid (∀ t, G t = x[t]!) := ⟨fun t => x[t]!, Lib.hid fun _ => rfl⟩
  have hcw : ∀ t, t < len → w.cell? ⟨blk, off + t, none⟩ = some (.int .u64 (G t)) := fun t ht => by
    rw [HG.out]; exact (hH t (by omega)).1
  have hfw : ∀ t, t < len → w.frozen? ⟨blk, off + t, none⟩ = false := fun t ht => (hH t (by omega)).2
  obtain ⟨hc1, hc2⟩ := hC
  have hslt : s < w.heap.size := block_lt_of_cell (a := ⟨s, 0, none⟩) hc1
  unfold Sort.order2
  rw [← HG.out, ← HG.out]
  clear hH hlen
  go_enter Tryz.func116, Tryz.ntmps116
  go_wp2_with fail
  go_quiet (first | (go_at_call 104; refine Calls.quiet_of_same (less_any _ _ _)))
  have hc1' : (w.drewN nq).cell? ⟨s, 0, none⟩ = some (.int .i64 (n : Int)) := hc1
  have hc2' : (w.drewN nq).frozen? ⟨s, 0, none⟩ = false := hc2
  go_wp2_with fail
  · go_ret2
    refine ⟨rfl, ((Frm.refl [s] w).drewN nq).setCell (Or.inl (List.mem_singleton.2 rfl)) _, ?_, ?_⟩
    · simp [World.cell?_setCell_same, hc1']
    · simpa using hc2
  all_goals
    go_ret2
    exact ⟨rfl, (Frm.refl [s] w).drewN nq, hc1, hc2⟩

theorem o2_lt {lt : Int → Int → Bool} {x : Array Int} {a b n len a1 b1 n1 : Nat} (h : Sort.order2 lt x a b n = (a1, b1, n1)) (ha : a < len) (hb : b < len) : a1 < len ∧ b1 < len ∧ n1 ≤ n + 1 := by
  unfold Sort.order2 at h
  split at h <;> (simp only [Prod.mk.injEq] at h; omega)
theorem o2_call (blk off cap len s : Nat) (x : Array Int) (hlen : x.size = len) {a b n a1 b1 n1 : Nat} (h : Sort.order2 ltInt x a b n = (a1, b1, n1)) (ha : a < len) (hb : b < len) (hn : n < 1000) (w : World) (hH : Holds u6 w blk off x) (hC : Cnt w s n) :
    Calls Tryz.prog 116 #[.slice (some ⟨blk, off, none⟩) len cap, .int .i64 a, .int .i64 b, .pointer (some ⟨s, 0, none⟩)] w fun e w' =>
      e = .returned (.tuple #[.int .i64 (a1 : Nat), .int .i64 (b1 : Nat)]) ∧ Frm [s] w w' ∧ Cnt w' s n1 := by
  have e := order2_any blk off cap len a b s n x w hlen hH ha hb hC hn
  rw [h] at e
  exact e

set_option maxHeartbeats 4000000 in
theorem median_any (blk off cap len a b c s n : Nat) (x : Array Int) (w : World) (hlen : x.size = len) (hH : Holds u6 w blk off x) (ha : a < len) (hb : b < len) (hc : c < len) (hs : blk ≠ s) (hC : Cnt w s n) (hn : n < 900) :
    Calls Tryz.prog 114 #[.slice (some ⟨blk, off, none⟩) len cap, .int .i64 a, .int .i64 b, .int .i64 c, .pointer (some ⟨s, 0, none⟩)] w fun e w' =>
      e = .returned (.int .i64 ((Sort.median ltInt x a b c n).1 : Nat)) ∧ Frm [s] w w' ∧ Cnt w' s (Sort.median ltInt x a b c n).2 := by
  obtain ⟨a1, b1, n1, h1⟩ : ∃ a1 b1 n1, Sort.order2 ltInt x a b n = (a1, b1, n1) := ⟨_, _, _, rfl⟩
  obtain ⟨a2, c2, n2, h2⟩ : ∃ a2 c2 n2, Sort.order2 ltInt x b1 c n1 = (a2, c2, n2) := ⟨_, _, _, rfl⟩
  obtain ⟨a3, b3, n3, h3⟩ : ∃ a3 b3 n3, Sort.order2 ltInt x a1 a2 n2 = (a3, b3, n3) := ⟨_, _, _, rfl⟩
  obtain ⟨l1, l2, l3⟩ := o2_lt h1 ha hb
  obtain ⟨l4, l5, l6⟩ := o2_lt h2 l2 hc
  have hm : Sort.median ltInt x a b c n = (b3, n3) := by
    unfold Sort.median
    simp only [h1, h2, h3]
  rw [hm]
  have K1 := o2_call blk off cap len s x hlen h1 ha hb (by omega)
  have K2 := o2_call blk off cap len s x hlen h2 l2 hc (by omega)
  have K3 := o2_call blk off cap len s x hlen h3 l1 l4 (by omega)
  have hbs : blk ∉ [s] := by simpa using hs
  clear h1 h2 h3 hm hlen
  go_enter Tryz.func114, Tryz.ntmps114
  go_wp2_with (first
    | (go_at_call 116; refine (K3 _ hH2 hC2).mono ?_; rintro e w3 ⟨rfl, hf3, hC3⟩)
    | (go_at_call 116; refine (K2 _ hH1 hC1).mono ?_; rintro e w2 ⟨rfl, hf2, hC2⟩; have hH2 := holds_frm hH1 hf2 hbs)
    | (go_at_call 116; refine (K1 _ hH hC).mono ?_; rintro e w1 ⟨rfl, hf1, hC1⟩; have hH1 := holds_frm hH hf1 hbs))
  go_ret
  exact ⟨rfl, (hf1.trans hf2 (fun _ h => h) (fun _ h => Or.inl h)).trans hf3 (fun _ h => h) (fun _ h => Or.inl h), hC3⟩
end Go.Proofs.YtamcandcfainfaaGreat
/- A row of numbers in a world that went on otherwise (RW). It speaks of no program's function. -/
namespace Go.Proofs.YtamcandcfainfaaGreat
open Go.RowKit Go.Sort
set_option maxRecDepth 100000

/-- w' is w with x in the row, and new blocks. -/
def RW (w w' : World) (blk off : Nat) (x : Array Int) : Prop := Frm [] (rowW w 0 blk off x) w'
section
variable {w w1 w' : World} {blk off : Nat} {x y : Array Int}
theorem map_frm {u v : World} {f : Array Value → Array Value} (h : Frm [] u v) : Frm [] (mapBlock u blk f) (mapBlock v blk f) := by
  refine ⟨h.os, h.tape, h.output, by simpa [mapBlock] using h.size, fun k hk _ => ?_⟩
  have hk' : k < u.heap.size := by simpa [mapBlock] using hk
  have e := h.block k hk' (by simp)
  show (v.heap.modify blk (onCells f))[k]? = (u.heap.modify blk (onCells f))[k]?
  rw [Array.getElem?_modify, Array.getElem?_modify, e]
theorem put_frm {u v : World} (h : Frm [] u v) : Frm [] (rowW u 0 blk off x) (rowW v 0 blk off x) := map_frm h
theorem rowW_any (w : World) (n : Nat) : Frm [] (rowW w 0 blk off x) (rowW w n blk off x) := ⟨rfl, rfl, rfl, Nat.le_refl _, fun _ _ _ => rfl⟩
theorem rowW_row (w : World) (h : y.size = x.size) : rowW (rowW w 0 blk off x) 0 blk off y = rowW w 0 blk off y := by
  unfold rowW
  rw [ahead_zero, ahead_zero]
  exact putRow_putRow u6 w blk off x y h
theorem rowW_size (w : World) (n : Nat) : (rowW w n blk off x).heap.size = w.heap.size := by unfold rowW; simp
theorem RW.size (h : RW w w' blk off x) : w.heap.size ≤ w'.heap.size := by have := Frm.size h; rwa [rowW_size] at this
theorem RW.start (h : Holds u6 w blk off x) : RW w w blk off x := by
  have e := rowW_zero h
  unfold RW
  rw [← e]
  exact Frm.refl _ _
theorem RW.frm (h : RW w w1 blk off x) (hf : Frm [] w1 w') : RW w w' blk off x := Frm.trans h hf (by simp) (by simp)
/-- Blocks that are new since w are written. -/
theorem RW.news {T : List Nat} (h : RW w w1 blk off x) (hf : Frm T w1 w') (hT : ∀ b ∈ T, w.heap.size ≤ b) : RW w w' blk off x := Frm.trans h hf (by simp) (fun b hb => .inr (by rw [rowW_size]; exact hT b hb))
theorem RW.holds {d : Array Int} (h : RW w w' blk off x) (hd : Holds u6 w blk off d) (hs : x.size = d.size) : Holds u6 w' blk off x := by
  have h1 : Holds u6 (rowW w 0 blk off x) blk off x := fun t ht => rowW_cell hd hs 0 t (by omega)
  exact holds_frm h1 h (by simp)
/-- A call that writes the row alone. -/
theorem RW.row (h : RW w w1 blk off x) (hs : y.size = x.size) {n : Nat} (he : w' = rowW w1 n blk off y) : RW w w' blk off y := by
  subst he
  have h1 : Frm [] (rowW (rowW w 0 blk off x) 0 blk off y) (rowW w1 0 blk off y) := put_frm h
  rw [rowW_row w hs] at h1
  exact h1.trans (rowW_any w1 n) (by simp) (by simp)
theorem RW.trans (h : RW w w1 blk off x) (hs : y.size = x.size) (h2 : RW w1 w' blk off y) : RW w w' blk off y :=
  (h.row hs (n := 0) rfl).frm h2
end
end Go.Proofs.YtamcandcfainfaaGreat
/- The scans of the library's sort, a step at a time. They speak of no program. -/
namespace Go.Proofs.YtamcandcfainfaaGreat
open Go.Sort
section
variable {α : Type} [Inhabited α]
theorem up_on {p : α → Bool} {d : Array α} {j i : Nat} (h : i ≤ j) (hp : p d[i]! = true) : scanUp p d j i = scanUp p d j (i + 1) := by
  rw [scanUp, if_pos (by rw [hp, Bool.and_true]; exact decide_eq_true h)]
theorem up_end {p : α → Bool} {d : Array α} {j i : Nat} (h : ¬ (i ≤ j ∧ p d[i]! = true)) : scanUp p d j i = i := by
  rw [scanUp, if_neg (by rw [Bool.and_eq_true, decide_eq_true_eq]; exact h)]
theorem down_on {p : α → Bool} {d : Array α} {j i : Nat} (hi : 0 < i) (h : i ≤ j) (hp : p d[j]! = true) : scanDown p d i j = scanDown p d i (j - 1) := by
  cases j with
  | zero => omega
  | succ k => rw [scanDown, if_pos (by rw [hp, Bool.and_true]; exact decide_eq_true h)]; rfl
theorem down_end {p : α → Bool} {d : Array α} {j i : Nat} (h : ¬ (i ≤ j ∧ p d[j]! = true)) : scanDown p d i j = j := by
  cases j with
  | zero => rfl
  | succ k => rw [scanDown, if_neg (by rw [Bool.and_eq_true, decide_eq_true_eq]; exact h)]
end
end Go.Proofs.YtamcandcfainfaaGreat
/- The library's sort at rows of uint64, 8: the parting by equals. Written by wip/mk-sopart.py. -/
namespace Go.Proofs.YtamcandcfainfaaGreat
open Go.RowKit Go.Sort
set_option maxRecDepth 1000000

/-- Cells of a row, as the walk wants them. -/
theorem rowW_cells {w : World} {blk off : Nat} {d x : Array Int} (h : Holds u6 w blk off d) (hs : x.size = d.size) (n : Nat) {G : Nat → Int} (hG : ∀ t, G t = x[t]!) :
    (∀ t, t < d.size → (rowW w n blk off x).cell? ⟨blk, off + t, none⟩ = some (.int .u64 (G t))) ∧ ∀ t, t < d.size → (rowW w n blk off x).frozen? ⟨blk, off + t, none⟩ = false :=
  ⟨fun t ht => by rw [hG]; exact (rowW_cell h hs n t ht).1, fun t ht => (rowW_cell h hs n t ht).2⟩
/-- A cell that is written, or another one: there is one there still. -/
theorem cell_left {w : World} {p q : Addr} {v x : Value} (h : w.cell? q = some v) : ∃ u, (w.setCell p x).cell? q = some u := by
  by_cases e : p = q
  · subst e
    exact ⟨x, World.cell?_setCell_same _ _ _ h⟩
  · exact ⟨v, by rw [World.cell?_setCell_other _ _ _ _ e]; exact h⟩
theorem rowW_swapd (w : World) (n blk off : Nat) (d : Array Int) (j k : Nat) (hj : j < d.size) (hk : k < d.size) :
    (((rowW w n blk off d).setCell ⟨blk, off + j, none⟩ (u6 d[k]!)).setCell ⟨blk, off + k, none⟩ (u6 d[j]!)).drew = rowW w (n + 1) blk off (swp d j k) := by
  rw [rowW_swap w n blk off d j k hj hk]
  exact rowW_drewN _ _ _ _ _ _

set_option maxHeartbeats 8000000 in
theorem partEq_any (blk off cap a b pivot : Nat) (d : Array Int) (w : World) (hH : Holds u6 w blk off d) (hap : a ≤ pivot) (hpb : pivot < b) (hb : b ≤ d.size) (hsz : d.size < 4611686018427387904) :
    Calls Tryz.prog 105 #[.slice (some ⟨blk, off, none⟩) d.size cap, .int .i64 a, .int .i64 b, .int .i64 pivot] w fun e w' =>
      e = .returned (.int .i64 ((Sort.partitionEqual ltInt d a b pivot).1 : Nat)) ∧ ∃ n, w' = rowW w n blk off (Sort.partitionEqual ltInt d a b pivot).2 := by
  obtain ⟨R, hR⟩ : ∃ R, R = Sort.partitionEqual ltInt d a b pivot := ⟨_, rfl⟩
  rw [← hR]
  have HR := Lib.hid hR
  clear hR
  obtain ⟨G, hG⟩ : ∃ G : Nat → Int, Hid (∀ t, G t = d[t]!) := ⟨fun t => d[t]!, Lib.hid fun _ => rfl⟩
  have hc : ∀ t, t < d.size → w.cell? ⟨blk, off + t, none⟩ = some (.int .u64 (G t)) := fun t ht => by rw [hG.out]; exact (hH t ht).1
  have hf : ∀ t, t < d.size → w.frozen? ⟨blk, off + t, none⟩ = false := fun t ht => (hH t ht).2
  have HH := Lib.hid hH
  clear hH
  have hla : a < d.size := by omega
  have hlp : pivot < d.size := by omega
  obtain ⟨v', hy⟩ := cell_left (p := ⟨blk, off + a, none⟩) (x := .int .u64 (G pivot)) (hc pivot hlp)
  obtain ⟨i0, hi0⟩ : ∃ i0, i0 = a + 1 := ⟨_, rfl⟩
  obtain ⟨j0, hj0⟩ : ∃ j0, j0 = b - 1 := ⟨_, rfl⟩
  have hz1 : (a : Int) + 1 = (i0 : Int) := by omega
  have hz2 : (b : Int) - 1 = (j0 : Int) := by omega
  have HI0 := Lib.hid hi0
  have HJ0 := Lib.hid hj0
  obtain ⟨x0, hx0⟩ : ∃ x0, x0 = swp d a pivot := ⟨_, rfl⟩
  have HX0 := Lib.hid hx0
  clear hi0 hj0 hx0
  go_enter Tryz.func105, Tryz.ntmps105
  go_wp2
  go_region
  go_upto_region 2 with fail
  obtain ⟨W1, hW1⟩ : ∃ W1, W1 = ((w.setCell ⟨blk, off + a, none⟩ (.int .u64 (G pivot))).setCell ⟨blk, off + pivot, none⟩ (.int .u64 (G a))).drew := ⟨_, rfl⟩
  rw [← hW1]
  have HW1 : Hid (W1 = rowW w 1 blk off x0) := Lib.hid (by
    have h := rowW_swapd w 0 blk off d a pivot hla hlp
    rw [← rowW_zero HH.out] at h
    rw [hW1, hG.out, hG.out, HX0.out]
    exact h)
  clear hc hf hG hy hW1
  have HP0 : Hid (partEqLoop ltInt a i0 j0 x0 = R) := Lib.hid (by rw [HR.out, HX0.out, HI0.out, HJ0.out]; rfl)
  have hs0 : x0.size = d.size := by rw [HX0.out, size_swp]
  clear HX0 HR
  have hb0 : a < i0 ∧ i0 ≤ j0 + 2 ∧ j0 < b := by have := HI0.out; have := HJ0.out; omega
  clear HI0 HJ0
  go_wp2_with fail
  go_loopg [9, 10] (b + 2) (fun g vi vj wx => ∃ (i j n : Nat) (x : Array Int), vi = .int .i64 i ∧ vj = .int .i64 j ∧ a < i ∧ i ≤ j + 2 ∧ j < b ∧ j + 2 - i ≤ g ∧ x.size = d.size ∧ Hid (wx = rowW w n blk off x) ∧ Hid (partEqLoop ltInt a i j x = R))
  case atStart => exact ⟨i0, j0, 1, x0, rfl, rfl, hb0.1, hb0.2.1, hb0.2.2, by omega, hs0, HW1, HP0⟩
  case round =>
    clear HW1 HP0 hs0 hb0
    obtain ⟨i, j, n, x, rfl, rfl, hi1, hi2, hj1, hg, hsx, HWX, HPL⟩ := hrel
    obtain ⟨CXF, CXG⟩ : ∃ G : Nat → Int, Hid (∀ t, G t = x[t]!) := ⟨fun t => x[t]!, Lib.hid fun _ => rfl⟩
    have CXs : Hid (∀ (z : World) (m : Nat), z = rowW w m blk off x → (∀ t, t < d.size → z.cell? ⟨blk, off + t, none⟩ = some (.int .u64 (CXF t))) ∧ ∀ t, t < d.size → z.frozen? ⟨blk, off + t, none⟩ = false) := Lib.hid fun z m hz => by
      subst hz; exact rowW_cells HH.out (by omega) m CXG.out
    go_wp2_with fail
    go_loopg [9] (j + 2 - i) (fun gg v wx => ∃ (i2 mi : Nat), v = .int .i64 i2 ∧ i ≤ i2 ∧ i2 ≤ j + 2 ∧ gg = j + 2 - i2 ∧ Hid (wx = rowW w mi blk off x) ∧ Hid (scanUp (fun y => !ltInt x[a]! y) x j i2 = scanUp (fun y => !ltInt x[a]! y) x j i))
    case atStart => exact ⟨i, n, rfl, Nat.le_refl _, by omega, rfl, HWX, Lib.hid rfl⟩
    case round =>
      clear HWX
      obtain ⟨i2, mi, rfl, hv1, hv2, hgg, HWi2, HSi2⟩ := hrel
      go_upto_region 3 with fail
      go_cut [43] from 29 to 45 (fun v wx => ∃ C : Bool, v = .bool C ∧ Hid (C = (decide (i2 ≤ j) && !ltInt (CXF a) (CXF i2))) ∧ ∃ q, Hid (wx = rowW w q blk off x))
      case first =>
        obtain ⟨hcw, hfw⟩ := CXs.out _ _ HWi2.out
        by_cases hcond : i2 ≤ j
        · go_quiet (first | (go_at_call 104; refine Calls.quiet_of_same (less_any _ _ _)))
          go_wp2_with fail
          go_meet
          exact ⟨_, rfl, Lib.hid (by rw [decide_eq_true hcond, Bool.true_and]), mi + nq, Lib.hid (by rw [HWi2.out]; exact rowW_drewN _ _ _ _ _ _)⟩
        · go_quiet (first | (go_at_call 104; refine Calls.quiet_of_same (less_any _ _ _)))
          go_wp2_with fail
          go_meet
          exact ⟨_, rfl, Lib.hid (by rw [decide_eq_false hcond, Bool.false_and]), mi + nq, Lib.hid (by rw [HWi2.out]; exact rowW_drewN _ _ _ _ _ _)⟩
      case rest =>
        obtain ⟨C, rfl, HC, qi2, HQi2⟩ := hcut
        have hcond : Hid (C = true ↔ (i2 ≤ j ∧ (fun y => !ltInt x[a]! y) x[i2]! = true)) := Lib.hid (by rw [HC.out, Bool.and_eq_true, decide_eq_true_eq, CXG.out, CXG.out])
        clear HC
        cases C
        case true =>
          have hb := hcond.out.1 rfl
          have HB := Lib.hid hb.2
          have hb1 := hb.1
          clear hb hcond
          go_wp2
          go_roundg (j + 2 - (i2 + 1))
          case measure => omega
          case rel => exact ⟨i2 + 1, qi2, by congr 1 <;> omega, by omega, by omega, rfl, HQi2, Lib.hid ((up_on hb1 HB.out).symm.trans HSi2.out)⟩
        case false =>
          have HEi2 : Hid (scanUp (fun y => !ltInt x[a]! y) x j i = i2) := Lib.hid (HSi2.out.symm.trans (up_end (fun h => by have := hcond.out.2 h; cases this)))
          clear hcond HSi2 HWi2
          go_wp2_with fail
          go_loopg [10] j (fun gg v wx => ∃ (j2 mj : Nat), v = .int .i64 j2 ∧ j2 ≤ j ∧ i2 ≤ j2 + 2 ∧ gg = j2 ∧ Hid (wx = rowW w mj blk off x) ∧ Hid (scanDown (fun y => ltInt x[a]! y) x i2 j2 = scanDown (fun y => ltInt x[a]! y) x i2 j))
          case atStart => exact ⟨j, qi2, rfl, Nat.le_refl _, by omega, rfl, HQi2, Lib.hid rfl⟩
          case round =>
            clear HQi2
            obtain ⟨j2, mj, rfl, hv1, hv2, hgg, HWj2, HSj2⟩ := hrel
            go_upto_region 5 with fail
            go_cut [59] from 46 to 61 (fun v wx => ∃ C : Bool, v = .bool C ∧ Hid (C = (decide (i2 ≤ j2) && ltInt (CXF a) (CXF j2))) ∧ ∃ q, Hid (wx = rowW w q blk off x))
            case first =>
              obtain ⟨hcw, hfw⟩ := CXs.out _ _ HWj2.out
              by_cases hcond : i2 ≤ j2
              · go_quiet (first | (go_at_call 104; refine Calls.quiet_of_same (less_any _ _ _)))
                go_wp2_with fail
                go_meet
                exact ⟨_, rfl, Lib.hid (by rw [decide_eq_true hcond, Bool.true_and]), mj + nq, Lib.hid (by rw [HWj2.out]; exact rowW_drewN _ _ _ _ _ _)⟩
              · go_quiet (first | (go_at_call 104; refine Calls.quiet_of_same (less_any _ _ _)))
                go_wp2_with fail
                go_meet
                exact ⟨_, rfl, Lib.hid (by rw [decide_eq_false hcond, Bool.false_and]), mj + nq, Lib.hid (by rw [HWj2.out]; exact rowW_drewN _ _ _ _ _ _)⟩
            case rest =>
              obtain ⟨C, rfl, HC, qj2, HQj2⟩ := hcut
              have hcond : Hid (C = true ↔ (i2 ≤ j2 ∧ (fun y => ltInt x[a]! y) x[j2]! = true)) := Lib.hid (by rw [HC.out, Bool.and_eq_true, decide_eq_true_eq, CXG.out, CXG.out])
              clear HC
              cases C
              case true =>
                have hb := hcond.out.1 rfl
                have HB := Lib.hid hb.2
                have hb1 := hb.1
                clear hb hcond
                go_wp2
                go_roundg (j2 - 1)
                case measure => omega
                case rel => exact ⟨j2 - 1, qj2, by congr 1 <;> omega, by omega, by omega, rfl, HQj2, Lib.hid ((down_on (by omega) hb1 HB.out).symm.trans HSj2.out)⟩
              case false =>
                have HEj2 : Hid (scanDown (fun y => ltInt x[a]! y) x i2 j = j2) := Lib.hid (HSj2.out.symm.trans (down_end (fun h => by have := hcond.out.2 h; cases this)))
                clear hcond HSj2 HWj2
                by_cases hgt : i2 > j2
                · have HFIN : Hid (R = (i2, x)) := Lib.hid (by
                    rw [← HPL.out, partEqLoop_eq, HEi2.out, HEj2.out, if_pos hgt])
                  go_wp2
                  go_ret
                  rw [HFIN.out]
                  exact ⟨rfl, qj2, HQj2.out⟩
                · have HNX : Hid (partEqLoop ltInt a (i2 + 1) (j2 - 1) (swp x i2 j2) = R) := Lib.hid (by
                    rw [← HPL.out, partEqLoop_eq ltInt a i j, HEi2.out, HEj2.out, if_neg hgt])
                  have hil : i2 < d.size := by omega
                  have hjl : j2 < d.size := by omega
                  obtain ⟨hcw, hfw⟩ := CXs.out _ _ HQj2.out
                  obtain ⟨v', hy⟩ := cell_left (p := ⟨blk, off + i2, none⟩) (x := .int .u64 (CXF j2)) (hcw j2 hjl)
                  go_upto_region 8 with fail
                  go_region
                  go_upto_region 9 with fail
                  obtain ⟨W2, hW2⟩ : ∃ W2, W2 = ((wc.setCell ⟨blk, off + i2, none⟩ (.int .u64 (CXF j2))).setCell ⟨blk, off + j2, none⟩ (.int .u64 (CXF i2))).drew := ⟨_, rfl⟩
                  rw [← hW2]
                  have HW2 : Hid (W2 = rowW w (qj2 + 1) blk off (swp x i2 j2)) := Lib.hid (by
                    rw [hW2, CXG.out, CXG.out, HQj2.out]
                    exact rowW_swapd w _ blk off x i2 j2 (by omega) (by omega))
                  clear hW2 hy hcw hfw
                  go_wp2
                  go_roundg (j2 - 1 + 2 - (i2 + 1))
                  case measure => omega
                  case rel => exact ⟨i2 + 1, j2 - 1, qj2 + 1, swp x i2 j2, by congr 1 <;> omega, by congr 1 <;> omega, by omega, by omega, by omega, Nat.le_refl _, by rw [size_swp]; exact hsx, HW2, HNX⟩
end Go.Proofs.YtamcandcfainfaaGreat
