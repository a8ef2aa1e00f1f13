/- Bytes taken as the parser says, in memory of their own; contract of takeCommand. -/
import Derived.Test.YtbdgldlblkflpaaGreatZMtTake
import Derived.Deep.RegionLaw
namespace Go.Proofs.YtbdgldlblkflpaaGreat
open Go.RowKit
set_option maxRecDepth 100000
/-- What Bytes hands back lies in memory of its own. -/
def GotNew (w : World) (rb cb db : Nat) (l : List Nat) (n : Nat) (e : Ending) (w' : World) : Prop :=
  ∃ a cap, e = .returned (.slice a n cap) ∧ Bytes w' a ((l.drop 4).take n) ∧ (a = none → cap = 0) ∧ (∀ q, a = some q → w.heap.size ≤ q.block) ∧ Rdr w' rb cb db (l.drop (4 + n)) ∧ Frm [rb] w w'
theorem rbytes_new {w : World} {rb cb db : Nat} {l : List Nat} (h : Rdr w rb cb db l) (hl : 4 ≤ l.length) (hdb : db < w.heap.size) (n : Nat) (hn : val (l.take 4) = n) (hn2 : n ≤ l.length - 4) (hfit : n ≤ 140737488355328) :
    Calls Tryz.prog 143 #[.pointer (some ⟨rb, 0, none⟩)] w (GotNew w rb cb db l n) := by
  have HN := Lib.hid (counted_ok h hl hdb n hn hn2)
  have H8 := Lib.hid h.h8
  clear h hn
  have hlen : ((l.drop 4).take n).length = n := by simp; omega
  have HL := Lib.hid hlen; clear hlen
  go_enter Tryz.func143, Tryz.ntmps143
  go_wp2_with fail
  refine HN.out.mono ?_
  rintro e w1 ⟨a, cap, rfl, ht⟩
  have HT := Lib.hid ht; clear ht
  go_wp2_with fail
  refine (clone_any a n cap _ _ HT.out.1 HL.out.symm HT.out.2.2.2.1 hfit).mono ?_
  rintro e w2 ⟨a', cap', rfl, ho, hf⟩
  have HO := Lib.hid ho; clear ho
  have HF := Lib.hid hf; clear hf
  rw [HL.out]
  rw [HL.out] at HO
  go_wp2
  go_ret
  obtain ⟨h1, h2, h3, h4, h5, h6, h7⟩ := HT.out
  have hb := bytes_of_own HO.out (fun c hc => H8.out c (List.mem_of_mem_drop (List.mem_of_mem_take hc)))
  exact ⟨a', cap', rfl, hb.2.1, hb.2.2, fun q hq => Nat.le_trans h7.size (World.ownsRow.lt HO.out q.block (by rw [hq]; rfl)).1, h6.keep HF.out (by simp) (by simp) (by simp), h7.trans HF.out (fun x hx => hx) (by simp)⟩
/-- Counted bytes are taken as the parser says, or it is thrown. -/
def TkB (w : World) (rb cb db : Nat) (l : List Nat) (e : Ending) (w' : World) : Prop :=
  (∃ (v m : List Nat) (a : Option Addr) (n c : Nat), pB l = some (v, m) ∧ Hid (n = v.length) ∧ e = .returned (.slice a n c) ∧ Bytes w' a v ∧ (a = none → c = 0) ∧ Hid (∀ q, a = some q → w.heap.size ≤ q.block) ∧ Rdr w' rb cb db m ∧ Frm [rb] w w') ∨ (pB l = none ∧ Thrown w rb cb 4 e w')
theorem tk_bytes {w : World} {rb cb db : Nat} {l : List Nat} (h : Rdr w rb cb db l) (hdb : db < w.heap.size) : Calls Tryz.prog 143 #[.pointer (some ⟨rb, 0, none⟩)] w (TkB w rb cb db l) := by
  by_cases hl : l.length < 4
  · exact (rbytes_short h hl).mono fun e w' h => .inr ⟨by unfold pB; rw [if_pos hl], h⟩
  · by_cases hn : l.length - 4 < val (l.take 4)
    · exact (rbytes_less h (by omega) hdb hn).mono fun e w' h => .inr ⟨by unfold pB; rw [if_neg hl, if_pos hn], h⟩
    · have hv : val (l.take 4) < 4294967296 := val_take_lt h 4 (by omega)
      refine (rbytes_new h (by omega) hdb _ rfl (by omega) (by omega)).mono ?_
      rintro e w' ⟨a, c, he, hb, hnl, hnew, hr, hf⟩
      refine .inl ⟨_, _, a, val (l.take 4), c, by unfold pB; rw [if_neg hl, if_neg hn], Lib.hid (by simp; omega), he, hb, hnl, Lib.hid hnew, hr, hf⟩
/-- What takeCommand answers. -/
def TkC (w : World) (rb cb db k : Nat) (l : List Nat) (e : Ending) (w' : World) : Prop :=
  (∃ c m a cap, pC k l = some (c, m) ∧ e = .returned (cmdV c a cap) ∧ Bytes w' a c.val ∧ (a = none → cap = 0) ∧ (∀ q, a = some q → w.heap.size ≤ q.block) ∧ Rdr w' rb cb db m ∧ Frm [rb] w w') ∨ (pC k l = none ∧ Thrown w rb cb 4 e w')

/-- The six stores of a command into its own block. -/
theorem TkC.stored {w w0 w1 w2 w5 : World} {rb cb db g k : Nat} {l v1 v2 m1 m2 m3 m4 m5 : List Nat} {x3 x4 x5 n2 c2 : Nat} {a2 : Option Addr} (hg : g = w.heap.size) (hf0 : Frm [] w w0) (hgr : g ≠ rb ∧ g ≠ cb ∧ g ≠ db)
    (hW : Whole w5 g 51 #[.int .u8 0, .string ⟨#[]⟩, .slice none 0 0, .int .u64 0, .int .u64 0, .int .u64 0]) (hglt : g < w0.heap.size)
    (hp1 : pB l = some (v1, m1)) (hp2 : pB m1 = some (v2, m2)) (hp3 : pU 8 m2 = some (x3, m3)) (hp4 : pU 8 m3 = some (x4, m4)) (hp5 : pU 8 m4 = some (x5, m5)) (hn2 : n2 = v2.length)
    (hb2 : Bytes w2 a2 v2) (hl2 : a2 = none → c2 = 0) (hnw2 : ∀ q, a2 = some q → w1.heap.size ≤ q.block) (h01 : Frm [rb] w0 w1) (h12 : Frm [rb] w1 w2) (hrb : rb < w0.heap.size) (h25 : Frm [rb] w2 w5) (hr5 : Rdr w5 rb cb db m5)
    {wz : World} (hz : wz = (((((w5.setCell ⟨g, 0, none⟩ (.int .u8 (k : Nat))).setCell ⟨g, 1, none⟩ (.string (strOf v1))).setCell ⟨g, 2, none⟩ (.slice a2 n2 c2)).setCell ⟨g, 3, none⟩ (.int .u64 (x3 : Nat))).setCell ⟨g, 4, none⟩ (.int .u64 (x4 : Nat))).setCell ⟨g, 5, none⟩ (.int .u64 (x5 : Nat))) :
    Whole wz g 51 #[.int .u8 (k : Nat), .string (strOf v1), .slice a2 n2 c2, .int .u64 (x3 : Nat), .int .u64 (x4 : Nat), .int .u64 (x5 : Nat)] ∧
    TkC w rb cb db k l (.returned (.agg #[.int .u8 (k : Nat), .string (strOf v1), .slice a2 n2 c2, .int .u64 (x3 : Nat), .int .u64 (x4 : Nat), .int .u64 (x5 : Nat)])) wz := by
  have hwz : Whole wz g 51 #[.int .u8 (k : Nat), .string (strOf v1), .slice a2 n2 c2, .int .u64 (x3 : Nat), .int .u64 (x4 : Nat), .int .u64 (x5 : Nat)] := by
    rw [hz]
    exact (((((hW.put 0 _).put 1 _).put 2 _).put 3 _).put 4 _).put 5 _
  have hfz : Frm [g] w5 wz := by
    rw [hz]
    exact ((((((Frm.refl _ _).setCell (.inl (by simp)) _).setCell (.inl (by simp)) _).setCell (.inl (by simp)) _).setCell (.inl (by simp)) _).setCell (.inl (by simp)) _).setCell (.inl (by simp)) _
  have hs1 := h01.size
  have hs0 := hf0.size
  refine ⟨hwz, .inl ⟨⟨k, strOf v1, v2, x3, x4, x5⟩, m5, a2, c2, ?_, ?_, ?_, hl2, ?_, ?_, ?_⟩⟩
  · unfold pC
    rw [hp1]; simp only [Option.bind_some]; rw [hp2]; simp only [Option.bind_some]; rw [hp3]; simp only [Option.bind_some]; rw [hp4]; simp only [Option.bind_some]; rw [hp5]; rfl
  · rw [hn2]; rfl
  · refine hfz.bytes (h25.bytes hb2 fun q hq hm => ?_) fun q hq hm => ?_
    · have := hnw2 q hq; simp at hm; omega
    · have := hnw2 q hq; simp at hm; omega
  · intro q hq
    have := hnw2 q hq; omega
  · exact hr5.keep hfz (by simp; exact fun h => hgr.1 h.symm) (by simp; exact fun h => hgr.2.1 h.symm) (by simp; exact fun h => hgr.2.2 h.symm)
  · exact ((hf0.trans h01 (U := [rb]) (by simp) (fun x hx => .inl hx)).trans (h12.trans h25 (U := [rb]) (fun x hx => hx) (fun x hx => .inl hx)) (U := [rb]) (fun x hx => hx) (fun x hx => .inl hx)).trans hfz (fun x hx => hx) (fun x hx => .inr (by simp at hx; omega))

set_option maxHeartbeats 16000000 in
theorem takeCommand_any {w : World} {rb cb db : Nat} {l : List Nat} (k : Nat) (h : Rdr w rb cb db l) (hdb : db < w.heap.size) :
    Calls Tryz.prog 100 #[.int .u8 (k : Nat), .pointer (some ⟨rb, 0, none⟩)] w (TkC w rb cb db k l) := by
  obtain ⟨w0, hw0⟩ : ∃ w0, w0 = w.alloc (.cells #[.int .u8 0, .string ⟨#[]⟩, .slice none 0 0, .int .u64 0, .int .u64 0, .int .u64 0] 51) := ⟨_, rfl⟩
  obtain ⟨g, hg⟩ : ∃ g, g = w.heap.size := ⟨_, rfl⟩
  have hW := Whole.made w 51 #[.int .u8 0, .string ⟨#[]⟩, .slice none 0 0, .int .u64 0, .int .u64 0, .int .u64 0]
  rw [← hw0, ← hg] at hW
  have hf0 : Frm [] w w0 := by rw [hw0]; exact (Frm.refl _ _).alloc _
  have hgr : g ≠ rb ∧ g ≠ cb ∧ g ≠ db := by have := h.lt; omega
  have HGR := Lib.hid hgr
  have HF0 := Lib.hid hf0
  have HW0 := Lib.hid hw0
  have HG := Lib.hid hg
  have HDB : Hid (db < w0.heap.size) := Lib.hid (Nat.lt_of_lt_of_le hdb hf0.size)
  have HR0 := Lib.hid ((h.keep hf0 (by simp) (by simp) (by simp)).keep (Frm.refl [] w0).drew (by simp) (by simp) (by simp))
  have HGL := Lib.hid hW.lt
  have HRB : Hid (rb < w0.heap.size) := Lib.hid (Nat.lt_of_lt_of_le h.lt.1 hf0.size)
  have HB0 := Lib.hid (tk_bytes HR0.out (show db < w0.drew.heap.size from HDB.out))
  have HCE := Lib.hid (fun (z : World) (hz : Frm [rb] w0 z) => hz.whole hW (by simpa using hgr.1))
  have ER : Hid (∀ z e w', Frm [rb] w0 z → pC k l = none → Thrown z rb cb 4 e w' → TkC w rb cb db k l e w') := Lib.hid fun z e w' hz hp ht => .inr ⟨hp, ht.early (HF0.out.trans hz (U := [rb]) (by simp) (fun x hx => .inl hx))⟩
  clear h hdb hW hf0 hgr hw0 hg
  go_enter Tryz.func100, Tryz.ntmps100
  go_wp2
  rw [← HW0.out, ← HG.out]
  have G0 : ∀ y, Frm [rb] w0 y → y.cell? ⟨g, 0, none⟩ = some (.int .u8 0) := fun y hy => (HCE.out y hy).cell 0
  have G1 : ∀ y, Frm [rb] w0 y → y.cell? ⟨g, 1, none⟩ = some (.string ⟨#[]⟩) := fun y hy => (HCE.out y hy).cell 1
  have G2 : ∀ y, Frm [rb] w0 y → y.cell? ⟨g, 2, none⟩ = some (.slice none 0 0) := fun y hy => (HCE.out y hy).cell 2
  have G3 : ∀ y, Frm [rb] w0 y → y.cell? ⟨g, 3, none⟩ = some (.int .u64 0) := fun y hy => (HCE.out y hy).cell 3
  have G4 : ∀ y, Frm [rb] w0 y → y.cell? ⟨g, 4, none⟩ = some (.int .u64 0) := fun y hy => (HCE.out y hy).cell 4
  have G5 : ∀ y, Frm [rb] w0 y → y.cell? ⟨g, 5, none⟩ = some (.int .u64 0) := fun y hy => (HCE.out y hy).cell 5
  have F0 : ∀ y, Frm [rb] w0 y → y.frozen? ⟨g, 0, none⟩ = false := fun y hy => (HCE.out y hy).free 0
  have F1 : ∀ y, Frm [rb] w0 y → y.frozen? ⟨g, 1, none⟩ = false := fun y hy => (HCE.out y hy).free 1
  have F2 : ∀ y, Frm [rb] w0 y → y.frozen? ⟨g, 2, none⟩ = false := fun y hy => (HCE.out y hy).free 2
  have F3 : ∀ y, Frm [rb] w0 y → y.frozen? ⟨g, 3, none⟩ = false := fun y hy => (HCE.out y hy).free 3
  have F4 : ∀ y, Frm [rb] w0 y → y.frozen? ⟨g, 4, none⟩ = false := fun y hy => (HCE.out y hy).free 4
  have F5 : ∀ y, Frm [rb] w0 y → y.frozen? ⟨g, 5, none⟩ = false := fun y hy => (HCE.out y hy).free 5
  have s0 : Frm [rb] w0 w0.drew := (Frm.refl _ _).drew
  go_region_law (first
    | (go_simp; go_at_call 143; (with_reducible refine HB0.out.mono ?_); rintro e w1 (⟨v1, m1, a1, n1, c1, hp1, hn1, rfl, hb1, hl1, hnw1, hr1, hf1⟩ | ⟨hp1, ht⟩); rotate_left 1; (have hb := ER.out _ _ _ s0 (by unfold pC; rw [hp1]; rfl) ht; obtain ⟨rfl, _⟩ := ht; exact ⟨rfl, hb⟩); have s1 : Frm [rb] w0 w1 := s0.trans hf1 (fun x hx => hx) (fun x hx => .inl hx); have t1 : Frm [rb] w1 w1 := Frm.refl _ _; have cv1 : ∀ y, Frm [rb] w1 y → (Go.convert 35 9 (.slice a1 n1 c1)).run Tryz.prog y = .ok (.string (strOf v1)) y := fun y hy => run_to_string (P := Tryz.prog) (src := 35) (dst := 9) (e := 5) Tryz.underlying35 Tryz.underlying5 Tryz.underlying9 (hy.bytes hb1 (fun q hq hm => by have h1 := hnw1.out q hq; have h2 := HRB.out; have h3 := s0.size; simp at hm; omega)) hn1.out)
    | (go_simp; go_at_call 143; (with_reducible refine (tk_bytes hr1 (by have := HDB.out; have := s1.size; omega)).mono ?_); rintro e w2 (⟨v2, m2, a2, n2, c2, hp2, hn2, rfl, hb2, hl2, hnw2, hr2, hf2⟩ | ⟨hp2, ht⟩); rotate_left 1; (have hb := ER.out _ _ _ s1 (by unfold pC; rw [hp1]; simp only [Option.bind_some]; rw [hp2]; rfl) ht; obtain ⟨rfl, _⟩ := ht; exact ⟨rfl, hb⟩); have s2 : Frm [rb] w0 w2 := s1.trans hf2 (fun x hx => hx) (fun x hx => .inl hx); have t2 : Frm [rb] w1 w2 := hf2)
    | (go_simp; go_at_call 140; (with_reducible refine (tk_u64 hr2 (by have := HDB.out; have := s2.size; omega)).mono ?_); rintro e w3 (⟨x3, m3, hp3, hx3, rfl, hr3, hf3⟩ | ⟨hp3, ht⟩); rotate_left 1; (have hb := ER.out _ _ _ s2 (by unfold pC; rw [hp1]; simp only [Option.bind_some]; rw [hp2]; simp only [Option.bind_some]; rw [hp3]; rfl) ht; obtain ⟨rfl, _⟩ := ht; exact ⟨rfl, hb⟩); have s3 : Frm [rb] w0 w3 := s2.trans hf3 (fun x hx => hx) (fun x hx => .inl hx); have t3 : Frm [rb] w1 w3 := t2.trans hf3 (fun x hx => hx) (fun x hx => .inl hx))
    | (go_simp; go_at_call 140; (with_reducible refine (tk_u64 hr3 (by have := HDB.out; have := s3.size; omega)).mono ?_); rintro e w4 (⟨x4, m4, hp4, hx4, rfl, hr4, hf4⟩ | ⟨hp4, ht⟩); rotate_left 1; (have hb := ER.out _ _ _ s3 (by unfold pC; rw [hp1]; simp only [Option.bind_some]; rw [hp2]; simp only [Option.bind_some]; rw [hp3]; simp only [Option.bind_some]; rw [hp4]; rfl) ht; obtain ⟨rfl, _⟩ := ht; exact ⟨rfl, hb⟩); have s4 : Frm [rb] w0 w4 := s3.trans hf4 (fun x hx => hx) (fun x hx => .inl hx); have t4 : Frm [rb] w1 w4 := t3.trans hf4 (fun x hx => hx) (fun x hx => .inl hx))
    | (go_simp; go_at_call 140; (with_reducible refine (tk_u64 hr4 (by have := HDB.out; have := s4.size; omega)).mono ?_); rintro e w5 (⟨x5, m5, hp5, hx5, rfl, hr5, hf5⟩ | ⟨hp5, ht⟩); rotate_left 1; (have hb := ER.out _ _ _ s4 (by unfold pC; rw [hp1]; simp only [Option.bind_some]; rw [hp2]; simp only [Option.bind_some]; rw [hp3]; simp only [Option.bind_some]; rw [hp4]; simp only [Option.bind_some]; rw [hp5]; rfl) ht; obtain ⟨rfl, _⟩ := ht; exact ⟨rfl, hb⟩); have s5 : Frm [rb] w0 w5 := s4.trans hf5 (fun x hx => hx) (fun x hx => .inl hx); have t5 : Frm [rb] w1 w5 := t4.trans hf5 (fun x hx => hx) (fun x hx => .inl hx)))
  all_goals
    obtain ⟨wz, hz⟩ : ∃ wz, wz = (((((w5.setCell ⟨g, 0, none⟩ (.int .u8 (k : Nat))).setCell ⟨g, 1, none⟩ (.string (strOf v1))).setCell ⟨g, 2, none⟩ (.slice a2 n2 c2)).setCell ⟨g, 3, none⟩ (.int .u64 (x3 : Nat))).setCell ⟨g, 4, none⟩ (.int .u64 (x4 : Nat))).setCell ⟨g, 5, none⟩ (.int .u64 (x5 : Nat)) := ⟨_, rfl⟩
    have hst := TkC.stored (w := w) (k := k) (l := l) HG.out HF0.out HGR.out (HCE.out w5 s5) HGL.out hp1 hp2 hp3 hp4 hp5 hn2.out hb2 hl2 hnw2.out s1 hf2 HRB.out ((hf3.trans hf4 (U := [rb]) (fun x hx => hx) (fun x hx => .inl hx)).trans hf5 (U := [rb]) (fun x hx => hx) (fun x hx => .inl hx)) hr5 hz
    have HEND := Lib.hid hst.2
    have y0 := hst.1.cell 0
    have y1 := hst.1.cell 1
    have y2 := hst.1.cell 2
    have y3 := hst.1.cell 3
    have y4 := hst.1.cell 4
    have y5 := hst.1.cell 5
    simp at y0 y1 y2 y3 y4 y5
    rw [← hz]
    have HZ := Lib.hid hz
    clear hst hz G0 G1 G2 G3 G4 G5 F0 F1 F2 F3 F4 F5 cv1
    go_wp2
    refine bodyPost_ret (v := .agg #[.int .u8 (k : Nat), .string (strOf v1), .slice a2 n2 c2, .int .u64 (x3 : Nat), .int .u64 (x4 : Nat), .int .u64 (x5 : Nat)]) ?_ rfl ?_
    · simp [results, Tryz.results100, go_sem, y0, y1, y2, y3, y4, y5]
    · exact HEND.out
end Go.Proofs.YtbdgldlblkflpaaGreat
