/- Contracts and mathematics that the proofs of this seat stand on: MtTake, MtTakeC, MtTakeN, PkFail, MtTakeS, PkRead8, MtRepBy, MtRep8. -/
import Derived.Test.YtcbpppdmkhpkkaaGreatME
import Derived.Test.YtcbpppdmkhpkkaaGreatMA
import Derived.Test.YtcbpppdmkhpkkaaGreatMD
import Derived.Deep.RegionLaw
import Derived.Test.YtcbpppdmkhpkkaaGreatMC
/- What the reader takes, as the parser says; contract of takeSessions. -/
namespace Go.Proofs.YtcbpppdmkhpkkaaGreat
open Go.RowKit
/-- A thing is taken as the parser p says, or it is thrown. -/
def TkN (w : World) (rb cb db : Nat) (k : Nat) (ik : IntKind) (l : List Nat) (e : Ending) (w' : World) : Prop :=
  (∃ (n : Nat) (m : List Nat), pU k l = some (n, m) ∧ n < 256 ^ k ∧ e = .returned (.int ik (n : Nat)) ∧ Rdr w' rb cb db m ∧ Frm [rb] w w') ∨ (pU k l = none ∧ Thrown w rb cb 4 e w')
theorem tk_u8 {w : World} {rb cb db : Nat} {l : List Nat} (h : Rdr w rb cb db l) (hdb : db < w.heap.size) : Calls Tryz.prog 119 #[.pointer (some ⟨rb, 0, none⟩)] w (TkN w rb cb db 1 .u8 l) := by
  by_cases hl : l.length < 1
  · exact (ru8_short h hl).mono fun e w' h => .inr ⟨by unfold pU; rw [if_pos hl], h⟩
  · exact (ru8_ok h (by omega) hdb).mono fun e w' h' => .inl ⟨_, _, by unfold pU; rw [if_neg hl], val_take_lt h 1 (by omega), h'.1, h'.2.1, h'.2.2⟩
theorem tk_u16 {w : World} {rb cb db : Nat} {l : List Nat} (h : Rdr w rb cb db l) (hdb : db < w.heap.size) : Calls Tryz.prog 157 #[.pointer (some ⟨rb, 0, none⟩)] w (TkN w rb cb db 2 .u16 l) := by
  by_cases hl : l.length < 2
  · exact (ru16_short h hl).mono fun e w' h => .inr ⟨by unfold pU; rw [if_pos hl], h⟩
  · exact (ru16_ok h (by omega) hdb).mono fun e w' h' => .inl ⟨_, _, by unfold pU; rw [if_neg hl], val_take_lt h 2 (by omega), h'.1, h'.2.1, h'.2.2⟩
theorem tk_u64 {w : World} {rb cb db : Nat} {l : List Nat} (h : Rdr w rb cb db l) (hdb : db < w.heap.size) : Calls Tryz.prog 74 #[.pointer (some ⟨rb, 0, none⟩)] w (TkN w rb cb db 8 .u64 l) := by
  by_cases hl : l.length < 8
  · exact (ru64_short h hl).mono fun e w' h => .inr ⟨by unfold pU; rw [if_pos hl], h⟩
  · exact (ru64_ok h (by omega) hdb).mono fun e w' h' => .inl ⟨_, _, by unfold pU; rw [if_neg hl], val_take_lt h 8 (by omega), h'.1, h'.2.1, h'.2.2⟩
/-- Where a number's bytes are too few, so they are for what is longer. -/
theorem pU_left {k n : Nat} {l m : List Nat} (h : pU k l = some (n, m)) : m = l.drop k ∧ k ≤ l.length := by
  unfold pU at h
  split at h
  · cases h
  · simp at h
    exact ⟨h.2.symm, by omega⟩
/-- So many of the rest are sessions: what is read, what is there still. -/
def TsRel (w : World) (rb cb db n : Nat) (l0 : List Nat) (s3 s6 : Value) (wr : World) : Prop :=
  ∃ (k : Nat) (a : Option Addr) (c an : Nat) (X : List Sn) (l : List Nat), k ≤ n ∧ s6 = .int .u16 (k : Nat) ∧ s3 = .slice a an c ∧ Hid (an = k) ∧ Hid (X.length = k) ∧ Hid (SOwn wr w.heap.size 142 [rb, cb, db] a c X) ∧ Hid (Rdr wr rb cb db l) ∧ Hid (Frm [rb] w wr) ∧ Hid (pXs n l0 = (pXs (n - k) l).bind fun b => some (X ++ b.1, b.2))
def TkX (w : World) (rb cb db : Nat) (l : List Nat) (e : Ending) (w' : World) : Prop :=
  (∃ X m a c, pCX l = some (X, m) ∧ X.length < 65536 ∧ e = .returned (.slice a X.length c) ∧ SOwn w' w.heap.size 142 [rb, cb, db] a c X ∧ Rdr w' rb cb db m ∧ Frm [rb] w w') ∨ (pCX l = none ∧ Thrown w rb cb 4 e w')
theorem pXs_cut {n : Nat} {l0 l : List Nat} {k : Nat} {X : List Sn} (h : pXs n l0 = (pXs (n - k) l).bind fun b => some (X ++ b.1, b.2)) (hk : k < n) (hn : pX l = none) : pXs n l0 = none := by
  rw [h, show n - k = (n - (k + 1)) + 1 by omega]
  unfold pXs
  rw [hn]
  rfl
theorem pXs_step {n : Nat} {l0 l m : List Nat} {k : Nat} {X : List Sn} {x : Sn} (h : pXs n l0 = (pXs (n - k) l).bind fun b => some (X ++ b.1, b.2)) (hk : k < n) (hn : pX l = some (x, m)) : pXs n l0 = (pXs (n - (k + 1)) m).bind fun b => some ((X ++ [x]) ++ b.1, b.2) := by
  rw [h, show n - k = (n - (k + 1)) + 1 by omega]
  conv => lhs; unfold pXs
  rw [hn]
  simp only [Option.bind_some]
  cases pXs (n - (k + 1)) m <;> simp
set_option maxRecDepth 100000 in
set_option maxHeartbeats 4000000 in
theorem takeSessions_any {w : World} {rb cb db : Nat} {l : List Nat} (h : Rdr w rb cb db l) (hdb : db < w.heap.size) :
    Calls Tryz.prog 145 #[.pointer (some ⟨rb, 0, none⟩)] w (TkX w rb cb db l) := by
  obtain ⟨i0, hi0, hz0, hz1, hz2⟩ := info_parts infoS1
  have HI := Lib.hid hi0; clear hi0
  have HZ0 := Lib.hid hz0; clear hz0
  have HZ1 := Lib.hid hz1; clear hz1
  have HZ2 := Lib.hid hz2; clear hz2
  have HN := Lib.hid (tk_u16 h hdb)
  have hlt := h.lt
  have HDB : Hid (∀ x ∈ [rb, cb, db], x < w.heap.size) := Lib.hid (by intro x hx; simp at hx; rcases hx with rfl | rfl | rfl; exact hlt.1; exact hlt.2; exact hdb)
  obtain ⟨Q, hQ⟩ : ∃ Q, Q = TkX w rb cb db l := ⟨_, rfl⟩
  rw [← hQ]
  have HQ := Lib.hid hQ
  clear h hdb hlt hQ
  go_enter Tryz.func145, Tryz.ntmps145
  go_wp2_with fail
  (with_reducible refine HN.out.mono ?_)
  rintro e w1 (⟨n, m1, hp, hn16, rfl, hr, hf⟩ | ⟨hp, rfl, h1, h2⟩)
  case inr => exact ⟨rfl, by rw [HQ.out]; exact .inr ⟨by unfold pCX; rw [hp]; rfl, rfl, h1, h2⟩⟩
  have hn16' : n < 65536 := by simpa using hn16
  have HP := Lib.hid hp
  have HR0 : Hid (TsRel w rb cb db n m1 (.slice none 0 0) (.int .u16 (0 : Nat)) w1) := Lib.hid ⟨0, none, 0, 0, [], m1, Nat.zero_le _, rfl, rfl, Lib.hid rfl, Lib.hid rfl, Lib.hid (SOwn.nil _ _ _ _), Lib.hid hr, Lib.hid hf, Lib.hid (by cases pXs n m1 <;> simp)⟩
  clear hp hr hf HN hn16
  go_wp2
  go_loopw [3, 6] (fun s3 s6 wr => TsRel w rb cb db n m1 s3 s6 wr) (fun _ s6 _ => n - (intOf s6).toNat)
  case atStart => exact HR0.out
  case round =>
    clear HR0
    obtain ⟨k, a, c, an, X, lr, hk, rfl, rfl, HAN, HXL, HO, HRD, HF, HPX⟩ := hrel
    by_cases hlt : k < n
    · have hsz := HF.out.size
      have HT1 := Lib.hid (tk_u64 HRD.out (Nat.lt_of_lt_of_le (HDB.out db (by simp)) hsz))
      have HDBr : Hid (∀ x ∈ [rb, cb, db], x < wr.heap.size) := Lib.hid fun x hx => Nat.lt_of_lt_of_le (HDB.out x hx) hsz
      have BAD : Hid (∀ (e : Ending) (w' w2 : World), pX lr = none → Frm [rb] wr w2 → Thrown w2 rb cb 4 e w' → Q e w') := Lib.hid fun e w' w2 hpx hf2 ht => by
        rw [HQ.out]
        exact .inr ⟨by unfold pCX; rw [HP.out]; exact pXs_cut HPX.out hlt hpx, ht.early (HF.out.trans hf2 (fun x hx => hx) (fun x hx => .inl hx))⟩
      clear hsz
      go_wp2_with fail
      (with_reducible refine HT1.out.mono ?_)
      rintro e w2 (⟨x1, l1, hp1, hx1, rfl, hr1, hf1⟩ | ⟨hp1, ht⟩)
      case inr => 
        have hb := BAD.out _ _ _ (by unfold pX; rw [hp1]; rfl) (Frm.refl _ _) ht
        obtain ⟨rfl, _⟩ := ht
        exact ⟨rfl, hb⟩
      have HT2 := Lib.hid (tk_u64 hr1 (Nat.lt_of_lt_of_le (HDBr.out db (by simp)) hf1.size))
      have HF1 := Lib.hid hf1
      have HP1 := Lib.hid hp1
      clear hr1 hf1 hp1 HT1
      go_wp2_with fail
      (with_reducible refine HT2.out.mono ?_)
      rintro e w3 (⟨x2, l2, hp2, hx2, rfl, hr2, hf2⟩ | ⟨hp2, ht⟩)
      case inr => 
        have hb := BAD.out _ _ _ (by unfold pX; rw [HP1.out]; simp only [Option.bind_some]; rw [hp2]; rfl) HF1.out ht
        obtain ⟨rfl, _⟩ := ht
        exact ⟨rfl, hb⟩
      have HF2 := Lib.hid (HF1.out.trans hf2 (U := [rb]) (fun x hx => hx) (fun x hx => .inl hx))
      have HT3 := Lib.hid (tk_u64 hr2 (Nat.lt_of_lt_of_le (HDBr.out db (by simp)) HF2.out.size))
      have HP2 := Lib.hid hp2
      clear hr2 hf2 hp2 HT2
      go_wp2_with fail
      (with_reducible refine HT3.out.mono ?_)
      rintro e w4 (⟨x3, l3, hp3, hx3, rfl, hr3, hf3⟩ | ⟨hp3, ht⟩)
      case inr => 
        have hb := BAD.out _ _ _ (by unfold pX; rw [HP1.out]; simp only [Option.bind_some]; rw [HP2.out]; simp only [Option.bind_some]; rw [hp3]; rfl) HF2.out ht
        obtain ⟨rfl, _⟩ := ht
        exact ⟨rfl, hb⟩
      have HF3 := Lib.hid (HF2.out.trans hf3 (U := [rb]) (fun x hx => hx) (fun x hx => .inl hx))
      have HPX3 := Lib.hid (pXs_step HPX.out hlt (show pX lr = some (⟨x1, x2, x3⟩, l3) by unfold pX; rw [HP1.out]; simp only [Option.bind_some]; rw [HP2.out]; simp only [Option.bind_some]; rw [hp3]; rfl))
      have HRD3 := Lib.hid hr3
      have HFX : Hid (∀ y ∈ [(⟨x1, x2, x3⟩ : Sn)], y.fits) := Lib.hid fun y hy => by simp at hy; subst hy; exact ⟨hx1, hx2, hx3⟩
      have HO3 := Lib.hid (HO.out.keep (F' := [rb, cb, db]) HF3.out (fun x hx => by simp at hx; subst hx; exact .inl (by simp)) (fun x hx => .inl hx))
      have HLA := Lib.hid (HO3.out.keep (S := []) (F' := [rb, cb, db]) ((Frm.refl [] w4).alloc (.cells #[.int .u64 (x1 : Nat), .int .u64 (x2 : Nat), .int .u64 (x3 : Nat)] 142)) (by simp) (fun _ h => .inl h))
      have HLAO : Hid ((w4.alloc (.cells #[.int .u64 (x1 : Nat), .int .u64 (x2 : Nat), .int .u64 (x3 : Nat)] 142)).ownsRow w.heap.size 142 3 (.slice a an c) an (snc X)) := Lib.hid (by have h := HLA.out.own; rw [HXL.out, ← HAN.out] at h; exact h)
      have hank : an < 65536 := by have := HAN.out; omega
      have HSZ4 := Lib.hid (HF.out.trans HF3.out (U := [rb]) (fun x hx => hx) (fun x hx => .inl hx))
      clear hp3 hr3 hf3 HT3 BAD HO HRD HF1 HF2 HP1 HP2 hx1 hx2 hx3 HPX
      go_wp2_with (at_builtin; refine wpList_appS (by rfl) (.tmp 8) (.tmp 16) 31 rfl w.heap.size 142 i0 (.agg #[.int .u64 0, .int .u64 0, .int .u64 0]) 3 24 Tryz.underlying31 HI.out HZ0.out rfl (by decide) HZ1.out HZ2.out (by decide) (.slice a an c) an _ rfl HLAO.out (some ⟨w4.heap.size, 0, none⟩) 1 1 (snc [⟨x1, x2, x3⟩]) rfl (snvals_one w4 ⟨x1, x2, x3⟩ _) rfl (snc_one _) (fun h => by cases h) (by omega) (by have := HSZ4.out.size; simp; omega) ?_)
      intro a' c' w5 happ
      have g5 := HLA.out.app (by rw [HXL.out, HAN.out]) HFX.out rfl (fun x hx => Nat.lt_of_lt_of_le (HDBr.out x hx) (by have := HF3.out.size; simp; omega)) happ
      have hbl := HLA.out.blk_lt
      have haw := HLA.out.away
      have hr5 : Rdr w5 rb cb db l3 := (HRD3.out.keep ((Frm.refl [] w4).alloc (.cells #[.int .u64 (x1 : Nat), .int .u64 (x2 : Nat), .int .u64 (x3 : Nat)] 142)) (by simp) (by simp) (by simp)).keep g5.2.1 (fun hm => haw _ hm (by simp)) (fun hm => haw _ hm (by simp)) (fun hm => haw _ hm (by simp))
      have hf5 : Frm [rb] w w5 := (HSZ4.out.alloc (.cells #[.int .u64 (x1 : Nat), .int .u64 (x2 : Nat), .int .u64 (x3 : Nat)] 142)).trans g5.2.1 (fun x hx => hx) (fun x hx => .inr (hbl x hx).1)
      have HREL : Hid (TsRel w rb cb db n m1 (.slice a' (an + 1) c') (.int .u16 ((k + 1 : Nat) : Nat)) w5) := Lib.hid ⟨k + 1, a', c', an + 1, X ++ [⟨x1, x2, x3⟩], l3, hlt, rfl, rfl, Lib.hid (by rw [HAN.out]), Lib.hid (by rw [List.length_append, HXL.out]; rfl), Lib.hid g5.1, Lib.hid hr5, Lib.hid hf5, HPX3⟩
      have hk1 : ((k : Int) + 1) % 65536 = ((k + 1 : Nat) : Int) := by omega
      have hk2 : IntKind.u16.wrap ((k : Int) + 1) = ((k + 1 : Nat) : Int) := by rw [← hk1]; simp [IntKind.wrap, IntKind.bits, IntKind.signed]
      clear happ g5 hbl haw hr5 hf5
      go_wp2
      go_roundw
      case rel => exact HREL.out
      case measure => simp [intOf]; omega
    · obtain rfl : k = n := by omega
      have HE : Hid (Q (.returned (.slice a an c)) wr) := Lib.hid (by
        rw [HQ.out]
        refine .inl ⟨X, lr, a, c, ?_, by rw [HXL.out]; exact hn16', by rw [HAN.out, HXL.out], HO.out, HRD.out, HF.out⟩
        unfold pCX
        rw [HP.out]
        simp only [Option.bind_some]
        rw [HPX.out, Nat.sub_self]
        show some (X ++ [], lr) = _
        rw [List.append_nil])
      go_wp2
      exact HE.out
end Go.Proofs.YtcbpppdmkhpkkaaGreat
/- Bytes taken as the parser says, in memory of their own; contract of takeCommand. -/
namespace Go.Proofs.YtcbpppdmkhpkkaaGreat
open Go.RowKit
set_option maxRecDepth 100000
/-- What Bytes hands back lies in memory of its own. -/
def GotNew (w : World) (rb cb db : Nat) (l : List Nat) (n : Nat) (e : Ending) (w' : World) : Prop :=
  ∃ a cap, e = .returned (.slice a n cap) ∧ Bytes w' a ((l.drop 4).take n) ∧ (a = none → cap = 0) ∧ (∀ q, a = some q → w.heap.size ≤ q.block) ∧ Rdr w' rb cb db (l.drop (4 + n)) ∧ Frm [rb] w w'
theorem rbytes_new {w : World} {rb cb db : Nat} {l : List Nat} (h : Rdr w rb cb db l) (hl : 4 ≤ l.length) (hdb : db < w.heap.size) (n : Nat) (hn : val (l.take 4) = n) (hn2 : n ≤ l.length - 4) (hfit : n ≤ 140737488355328) :
    Calls Tryz.prog 147 #[.pointer (some ⟨rb, 0, none⟩)] w (GotNew w rb cb db l n) := by
  have HN := Lib.hid (counted_ok h hl hdb n hn hn2)
  have H8 := Lib.hid h.h8
  clear h hn
  have hlen : ((l.drop 4).take n).length = n := by simp; omega
  have HL := Lib.hid hlen; clear hlen
  go_enter Tryz.func147, Tryz.ntmps147
  go_wp2_with fail
  refine HN.out.mono ?_
  rintro e w1 ⟨a, cap, rfl, ht⟩
  have HT := Lib.hid ht; clear ht
  go_wp2_with fail
  refine (clone_any a n cap _ _ HT.out.1 HL.out.symm HT.out.2.2.2.1 hfit).mono ?_
  rintro e w2 ⟨a', cap', rfl, ho, hf⟩
  have HO := Lib.hid ho; clear ho
  have HF := Lib.hid hf; clear hf
  rw [HL.out]
  rw [HL.out] at HO
  go_wp2
  go_ret
  obtain ⟨h1, h2, h3, h4, h5, h6, h7⟩ := HT.out
  have hb := bytes_of_own HO.out (fun c hc => H8.out c (List.mem_of_mem_drop (List.mem_of_mem_take hc)))
  exact ⟨a', cap', rfl, hb.2.1, hb.2.2, fun q hq => Nat.le_trans h7.size (World.ownsRow.lt HO.out q.block (by rw [hq]; rfl)).1, h6.keep HF.out (by simp) (by simp) (by simp), h7.trans HF.out (fun x hx => hx) (by simp)⟩
/-- Counted bytes are taken as the parser says, or it is thrown. -/
def TkB (w : World) (rb cb db : Nat) (l : List Nat) (e : Ending) (w' : World) : Prop :=
  (∃ (v m : List Nat) (a : Option Addr) (n c : Nat), pB l = some (v, m) ∧ Hid (n = v.length) ∧ e = .returned (.slice a n c) ∧ Bytes w' a v ∧ (a = none → c = 0) ∧ Hid (∀ q, a = some q → w.heap.size ≤ q.block) ∧ Rdr w' rb cb db m ∧ Frm [rb] w w') ∨ (pB l = none ∧ Thrown w rb cb 4 e w')
theorem tk_bytes {w : World} {rb cb db : Nat} {l : List Nat} (h : Rdr w rb cb db l) (hdb : db < w.heap.size) : Calls Tryz.prog 147 #[.pointer (some ⟨rb, 0, none⟩)] w (TkB w rb cb db l) := by
  by_cases hl : l.length < 4
  · exact (rbytes_short h hl).mono fun e w' h => .inr ⟨by unfold pB; rw [if_pos hl], h⟩
  · by_cases hn : l.length - 4 < val (l.take 4)
    · exact (rbytes_less h (by omega) hdb hn).mono fun e w' h => .inr ⟨by unfold pB; rw [if_neg hl, if_pos hn], h⟩
    · have hv : val (l.take 4) < 4294967296 := val_take_lt h 4 (by omega)
      refine (rbytes_new h (by omega) hdb _ rfl (by omega) (by omega)).mono ?_
      rintro e w' ⟨a, c, he, hb, hnl, hnew, hr, hf⟩
      refine .inl ⟨_, _, a, val (l.take 4), c, by unfold pB; rw [if_neg hl, if_neg hn], Lib.hid (by simp; omega), he, hb, hnl, Lib.hid hnew, hr, hf⟩
/-- What takeCommand answers. -/
def TkC (w : World) (rb cb db k : Nat) (l : List Nat) (e : Ending) (w' : World) : Prop :=
  (∃ c m a cap, pC k l = some (c, m) ∧ e = .returned (cmdV c a cap) ∧ Bytes w' a c.val ∧ (a = none → cap = 0) ∧ (∀ q, a = some q → w.heap.size ≤ q.block) ∧ Rdr w' rb cb db m ∧ Frm [rb] w w') ∨ (pC k l = none ∧ Thrown w rb cb 4 e w')

/-- The six stores of a command into its own block. -/
theorem TkC.stored {w w0 w1 w2 w5 : World} {rb cb db g k : Nat} {l v1 v2 m1 m2 m3 m4 m5 : List Nat} {x3 x4 x5 n2 c2 : Nat} {a2 : Option Addr} (hg : g = w.heap.size) (hf0 : Frm [] w w0) (hgr : g ≠ rb ∧ g ≠ cb ∧ g ≠ db)
    (hW : Whole w5 g 42 #[.int .u8 0, .string ⟨#[]⟩, .slice none 0 0, .int .u64 0, .int .u64 0, .int .u64 0]) (hglt : g < w0.heap.size)
    (hp1 : pB l = some (v1, m1)) (hp2 : pB m1 = some (v2, m2)) (hp3 : pU 8 m2 = some (x3, m3)) (hp4 : pU 8 m3 = some (x4, m4)) (hp5 : pU 8 m4 = some (x5, m5)) (hn2 : n2 = v2.length)
    (hb2 : Bytes w2 a2 v2) (hl2 : a2 = none → c2 = 0) (hnw2 : ∀ q, a2 = some q → w1.heap.size ≤ q.block) (h01 : Frm [rb] w0 w1) (h12 : Frm [rb] w1 w2) (hrb : rb < w0.heap.size) (h25 : Frm [rb] w2 w5) (hr5 : Rdr w5 rb cb db m5)
    {wz : World} (hz : wz = (((((w5.setCell ⟨g, 0, none⟩ (.int .u8 (k : Nat))).setCell ⟨g, 1, none⟩ (.string (strOf v1))).setCell ⟨g, 2, none⟩ (.slice a2 n2 c2)).setCell ⟨g, 3, none⟩ (.int .u64 (x3 : Nat))).setCell ⟨g, 4, none⟩ (.int .u64 (x4 : Nat))).setCell ⟨g, 5, none⟩ (.int .u64 (x5 : Nat))) :
    Whole wz g 42 #[.int .u8 (k : Nat), .string (strOf v1), .slice a2 n2 c2, .int .u64 (x3 : Nat), .int .u64 (x4 : Nat), .int .u64 (x5 : Nat)] ∧
    TkC w rb cb db k l (.returned (.agg #[.int .u8 (k : Nat), .string (strOf v1), .slice a2 n2 c2, .int .u64 (x3 : Nat), .int .u64 (x4 : Nat), .int .u64 (x5 : Nat)])) wz := by
  have hwz : Whole wz g 42 #[.int .u8 (k : Nat), .string (strOf v1), .slice a2 n2 c2, .int .u64 (x3 : Nat), .int .u64 (x4 : Nat), .int .u64 (x5 : Nat)] := by
    rw [hz]
    exact (((((hW.put 0 _).put 1 _).put 2 _).put 3 _).put 4 _).put 5 _
  have hfz : Frm [g] w5 wz := by
    rw [hz]
    exact ((((((Frm.refl _ _).setCell (.inl (by simp)) _).setCell (.inl (by simp)) _).setCell (.inl (by simp)) _).setCell (.inl (by simp)) _).setCell (.inl (by simp)) _).setCell (.inl (by simp)) _
  have hs1 := h01.size
  have hs0 := hf0.size
  refine ⟨hwz, .inl ⟨⟨k, strOf v1, v2, x3, x4, x5⟩, m5, a2, c2, ?_, ?_, ?_, hl2, ?_, ?_, ?_⟩⟩
  · unfold pC
    rw [hp1]; simp only [Option.bind_some]; rw [hp2]; simp only [Option.bind_some]; rw [hp3]; simp only [Option.bind_some]; rw [hp4]; simp only [Option.bind_some]; rw [hp5]; rfl
  · rw [hn2]; rfl
  · refine hfz.bytes (h25.bytes hb2 fun q hq hm => ?_) fun q hq hm => ?_
    · have := hnw2 q hq; simp at hm; omega
    · have := hnw2 q hq; simp at hm; omega
  · intro q hq
    have := hnw2 q hq; omega
  · exact hr5.keep hfz (by simp; exact fun h => hgr.1 h.symm) (by simp; exact fun h => hgr.2.1 h.symm) (by simp; exact fun h => hgr.2.2 h.symm)
  · exact ((hf0.trans h01 (U := [rb]) (by simp) (fun x hx => .inl hx)).trans (h12.trans h25 (U := [rb]) (fun x hx => hx) (fun x hx => .inl hx)) (U := [rb]) (fun x hx => hx) (fun x hx => .inl hx)).trans hfz (fun x hx => hx) (fun x hx => .inr (by simp at hx; omega))

set_option maxHeartbeats 16000000 in
theorem takeCommand_any {w : World} {rb cb db : Nat} {l : List Nat} (k : Nat) (h : Rdr w rb cb db l) (hdb : db < w.heap.size) :
    Calls Tryz.prog 121 #[.int .u8 (k : Nat), .pointer (some ⟨rb, 0, none⟩)] w (TkC w rb cb db k l) := by
  obtain ⟨w0, hw0⟩ : ∃ w0, w0 = w.alloc (.cells #[.int .u8 0, .string ⟨#[]⟩, .slice none 0 0, .int .u64 0, .int .u64 0, .int .u64 0] 42) := ⟨_, rfl⟩
  obtain ⟨g, hg⟩ : ∃ g, g = w.heap.size := ⟨_, rfl⟩
  have hW := Whole.made w 42 #[.int .u8 0, .string ⟨#[]⟩, .slice none 0 0, .int .u64 0, .int .u64 0, .int .u64 0]
  rw [← hw0, ← hg] at hW
  have hf0 : Frm [] w w0 := by rw [hw0]; exact (Frm.refl _ _).alloc _
  have hgr : g ≠ rb ∧ g ≠ cb ∧ g ≠ db := by have := h.lt; omega
  have HGR := Lib.hid hgr
  have HF0 := Lib.hid hf0
  have HW0 := Lib.hid hw0
  have HG := Lib.hid hg
  have HDB : Hid (db < w0.heap.size) := Lib.hid (Nat.lt_of_lt_of_le hdb hf0.size)
  have HR0 := Lib.hid ((h.keep hf0 (by simp) (by simp) (by simp)).keep (Frm.refl [] w0).drew (by simp) (by simp) (by simp))
  have HGL := Lib.hid hW.lt
  have HRB : Hid (rb < w0.heap.size) := Lib.hid (Nat.lt_of_lt_of_le h.lt.1 hf0.size)
  have HB0 := Lib.hid (tk_bytes HR0.out (show db < w0.drew.heap.size from HDB.out))
  have HCE := Lib.hid (fun (z : World) (hz : Frm [rb] w0 z) => hz.whole hW (by simpa using hgr.1))
  have ER : Hid (∀ z e w', Frm [rb] w0 z → pC k l = none → Thrown z rb cb 4 e w' → TkC w rb cb db k l e w') := Lib.hid fun z e w' hz hp ht => .inr ⟨hp, ht.early (HF0.out.trans hz (U := [rb]) (by simp) (fun x hx => .inl hx))⟩
  clear h hdb hW hf0 hgr hw0 hg
  go_enter Tryz.func121, Tryz.ntmps121
  go_wp2
  rw [← HW0.out, ← HG.out]
  have G0 : ∀ y, Frm [rb] w0 y → y.cell? ⟨g, 0, none⟩ = some (.int .u8 0) := fun y hy => (HCE.out y hy).cell 0
  have G1 : ∀ y, Frm [rb] w0 y → y.cell? ⟨g, 1, none⟩ = some (.string ⟨#[]⟩) := fun y hy => (HCE.out y hy).cell 1
  have G2 : ∀ y, Frm [rb] w0 y → y.cell? ⟨g, 2, none⟩ = some (.slice none 0 0) := fun y hy => (HCE.out y hy).cell 2
  have G3 : ∀ y, Frm [rb] w0 y → y.cell? ⟨g, 3, none⟩ = some (.int .u64 0) := fun y hy => (HCE.out y hy).cell 3
  have G4 : ∀ y, Frm [rb] w0 y → y.cell? ⟨g, 4, none⟩ = some (.int .u64 0) := fun y hy => (HCE.out y hy).cell 4
  have G5 : ∀ y, Frm [rb] w0 y → y.cell? ⟨g, 5, none⟩ = some (.int .u64 0) := fun y hy => (HCE.out y hy).cell 5
  have F0 : ∀ y, Frm [rb] w0 y → y.frozen? ⟨g, 0, none⟩ = false := fun y hy => (HCE.out y hy).free 0
  have F1 : ∀ y, Frm [rb] w0 y → y.frozen? ⟨g, 1, none⟩ = false := fun y hy => (HCE.out y hy).free 1
  have F2 : ∀ y, Frm [rb] w0 y → y.frozen? ⟨g, 2, none⟩ = false := fun y hy => (HCE.out y hy).free 2
  have F3 : ∀ y, Frm [rb] w0 y → y.frozen? ⟨g, 3, none⟩ = false := fun y hy => (HCE.out y hy).free 3
  have F4 : ∀ y, Frm [rb] w0 y → y.frozen? ⟨g, 4, none⟩ = false := fun y hy => (HCE.out y hy).free 4
  have F5 : ∀ y, Frm [rb] w0 y → y.frozen? ⟨g, 5, none⟩ = false := fun y hy => (HCE.out y hy).free 5
  have s0 : Frm [rb] w0 w0.drew := (Frm.refl _ _).drew
  go_region_law (first
    | (go_simp; go_at_call 147; (with_reducible refine HB0.out.mono ?_); rintro e w1 (⟨v1, m1, a1, n1, c1, hp1, hn1, rfl, hb1, hl1, hnw1, hr1, hf1⟩ | ⟨hp1, ht⟩); rotate_left 1; (have hb := ER.out _ _ _ s0 (by unfold pC; rw [hp1]; rfl) ht; obtain ⟨rfl, _⟩ := ht; exact ⟨rfl, hb⟩); have s1 : Frm [rb] w0 w1 := s0.trans hf1 (fun x hx => hx) (fun x hx => .inl hx); have t1 : Frm [rb] w1 w1 := Frm.refl _ _; have cv1 : ∀ y, Frm [rb] w1 y → (Go.convert 36 9 (.slice a1 n1 c1)).run Tryz.prog y = .ok (.string (strOf v1)) y := fun y hy => run_to_string (P := Tryz.prog) (src := 36) (dst := 9) (e := 5) Tryz.underlying36 Tryz.underlying5 Tryz.underlying9 (hy.bytes hb1 (fun q hq hm => by have h1 := hnw1.out q hq; have h2 := HRB.out; have h3 := s0.size; simp at hm; omega)) hn1.out)
    | (go_simp; go_at_call 147; (with_reducible refine (tk_bytes hr1 (by have := HDB.out; have := s1.size; omega)).mono ?_); rintro e w2 (⟨v2, m2, a2, n2, c2, hp2, hn2, rfl, hb2, hl2, hnw2, hr2, hf2⟩ | ⟨hp2, ht⟩); rotate_left 1; (have hb := ER.out _ _ _ s1 (by unfold pC; rw [hp1]; simp only [Option.bind_some]; rw [hp2]; rfl) ht; obtain ⟨rfl, _⟩ := ht; exact ⟨rfl, hb⟩); have s2 : Frm [rb] w0 w2 := s1.trans hf2 (fun x hx => hx) (fun x hx => .inl hx); have t2 : Frm [rb] w1 w2 := hf2)
    | (go_simp; go_at_call 74; (with_reducible refine (tk_u64 hr2 (by have := HDB.out; have := s2.size; omega)).mono ?_); rintro e w3 (⟨x3, m3, hp3, hx3, rfl, hr3, hf3⟩ | ⟨hp3, ht⟩); rotate_left 1; (have hb := ER.out _ _ _ s2 (by unfold pC; rw [hp1]; simp only [Option.bind_some]; rw [hp2]; simp only [Option.bind_some]; rw [hp3]; rfl) ht; obtain ⟨rfl, _⟩ := ht; exact ⟨rfl, hb⟩); have s3 : Frm [rb] w0 w3 := s2.trans hf3 (fun x hx => hx) (fun x hx => .inl hx); have t3 : Frm [rb] w1 w3 := t2.trans hf3 (fun x hx => hx) (fun x hx => .inl hx))
    | (go_simp; go_at_call 74; (with_reducible refine (tk_u64 hr3 (by have := HDB.out; have := s3.size; omega)).mono ?_); rintro e w4 (⟨x4, m4, hp4, hx4, rfl, hr4, hf4⟩ | ⟨hp4, ht⟩); rotate_left 1; (have hb := ER.out _ _ _ s3 (by unfold pC; rw [hp1]; simp only [Option.bind_some]; rw [hp2]; simp only [Option.bind_some]; rw [hp3]; simp only [Option.bind_some]; rw [hp4]; rfl) ht; obtain ⟨rfl, _⟩ := ht; exact ⟨rfl, hb⟩); have s4 : Frm [rb] w0 w4 := s3.trans hf4 (fun x hx => hx) (fun x hx => .inl hx); have t4 : Frm [rb] w1 w4 := t3.trans hf4 (fun x hx => hx) (fun x hx => .inl hx))
    | (go_simp; go_at_call 74; (with_reducible refine (tk_u64 hr4 (by have := HDB.out; have := s4.size; omega)).mono ?_); rintro e w5 (⟨x5, m5, hp5, hx5, rfl, hr5, hf5⟩ | ⟨hp5, ht⟩); rotate_left 1; (have hb := ER.out _ _ _ s4 (by unfold pC; rw [hp1]; simp only [Option.bind_some]; rw [hp2]; simp only [Option.bind_some]; rw [hp3]; simp only [Option.bind_some]; rw [hp4]; simp only [Option.bind_some]; rw [hp5]; rfl) ht; obtain ⟨rfl, _⟩ := ht; exact ⟨rfl, hb⟩); have s5 : Frm [rb] w0 w5 := s4.trans hf5 (fun x hx => hx) (fun x hx => .inl hx); have t5 : Frm [rb] w1 w5 := t4.trans hf5 (fun x hx => hx) (fun x hx => .inl hx)))
  all_goals
    obtain ⟨wz, hz⟩ : ∃ wz, wz = (((((w5.setCell ⟨g, 0, none⟩ (.int .u8 (k : Nat))).setCell ⟨g, 1, none⟩ (.string (strOf v1))).setCell ⟨g, 2, none⟩ (.slice a2 n2 c2)).setCell ⟨g, 3, none⟩ (.int .u64 (x3 : Nat))).setCell ⟨g, 4, none⟩ (.int .u64 (x4 : Nat))).setCell ⟨g, 5, none⟩ (.int .u64 (x5 : Nat)) := ⟨_, rfl⟩
    have hst := TkC.stored (w := w) (k := k) (l := l) HG.out HF0.out HGR.out (HCE.out w5 s5) HGL.out hp1 hp2 hp3 hp4 hp5 hn2.out hb2 hl2 hnw2.out s1 hf2 HRB.out ((hf3.trans hf4 (U := [rb]) (fun x hx => hx) (fun x hx => .inl hx)).trans hf5 (U := [rb]) (fun x hx => hx) (fun x hx => .inl hx)) hr5 hz
    have HEND := Lib.hid hst.2
    have y0 := hst.1.cell 0
    have y1 := hst.1.cell 1
    have y2 := hst.1.cell 2
    have y3 := hst.1.cell 3
    have y4 := hst.1.cell 4
    have y5 := hst.1.cell 5
    simp at y0 y1 y2 y3 y4 y5
    rw [← hz]
    have HZ := Lib.hid hz
    clear hst hz G0 G1 G2 G3 G4 G5 F0 F1 F2 F3 F4 F5 cv1
    go_wp2
    refine bodyPost_ret (v := .agg #[.int .u8 (k : Nat), .string (strOf v1), .slice a2 n2 c2, .int .u64 (x3 : Nat), .int .u64 (x4 : Nat), .int .u64 (x5 : Nat)]) ?_ rfl ?_
    · simp [results, Tryz.results121, go_sem, y0, y1, y2, y3, y4, y5]
    · exact HEND.out
end Go.Proofs.YtcbpppdmkhpkkaaGreat
/- Nodes taken as the parser says; contract of takeNodes. -/
namespace Go.Proofs.YtcbpppdmkhpkkaaGreat
open Go.RowKit
set_option maxRecDepth 100000
theorem pB_len {l v m : List Nat} (h : pB l = some (v, m)) : v.length ≤ l.length := by
  unfold pB at h
  split at h
  · cases h
  · split at h
    · cases h
    · simp at h
      rw [← h.1]
      simp; omega
theorem pNs_cut {n : Nat} {l0 l : List Nat} {k : Nat} {X : List Nd} (h : pNs n l0 = (pNs (n - k) l).bind fun b => some (X ++ b.1, b.2)) (hk : k < n) (hn : pN l = none) : pNs n l0 = none := by
  rw [h, show n - k = (n - (k + 1)) + 1 by omega]
  unfold pNs
  rw [hn]
  rfl
theorem pNs_step {n : Nat} {l0 l m : List Nat} {k : Nat} {X : List Nd} {x : Nd} (h : pNs n l0 = (pNs (n - k) l).bind fun b => some (X ++ b.1, b.2)) (hk : k < n) (hn : pN l = some (x, m)) : pNs n l0 = (pNs (n - (k + 1)) m).bind fun b => some ((X ++ [x]) ++ b.1, b.2) := by
  rw [h, show n - k = (n - (k + 1)) + 1 by omega]
  conv => lhs; unfold pNs
  rw [hn]
  simp only [Option.bind_some]
  cases pNs (n - (k + 1)) m <;> simp
/-- So many of the rest are nodes: what is read, what is there still. -/
def TnRel (F : List Nat) (w : World) (rb cb db n : Nat) (l0 : List Nat) (s3 s6 : Value) (wr : World) : Prop :=
  ∃ (k : Nat) (a : Option Addr) (c an : Nat) (X : List Nx) (l : List Nat), k ≤ n ∧ s6 = .int .u16 (k : Nat) ∧ s3 = .slice a an c ∧ Hid (an = k) ∧ Hid (X.length = k) ∧ Hid (NOwn wr w.heap.size 58 (rb :: cb :: db :: F) a c X) ∧ Hid (Rdr wr rb cb db l) ∧ Hid (Frm [rb] w wr) ∧ Hid (pNs n l0 = (pNs (n - k) l).bind fun b => some (nds X ++ b.1, b.2))
def TkNs (F : List Nat) (w : World) (rb cb db : Nat) (l : List Nat) (e : Ending) (w' : World) : Prop :=
  (∃ X m a c, pCN l = some (nds X, m) ∧ X.length < 65536 ∧ e = .returned (.slice a X.length c) ∧ NOwn w' w.heap.size 58 (rb :: cb :: db :: F) a c X ∧ Rdr w' rb cb db m ∧ Frm [rb] w w') ∨ (pCN l = none ∧ Thrown w rb cb 4 e w')
/-- One node more: what the literal and the row say, what appending leaves. -/
theorem tn_step {F : List Nat} {w wr w1 w2 w4 : World} {rb cb db k n an c n2 c2 : Nat} {a a2 : Option Addr} {X : List Nx} {l0 lr v1 v2 m1 m2 m3 m4 : List Nat} {x3 x4 : Nat}
    (hDB : ∀ x ∈ (rb :: cb :: db :: F), x < w.heap.size) (hk : k < n) (han : an = k) (hXL : X.length = k) (hO : NOwn wr w.heap.size 58 (rb :: cb :: db :: F) a c X) (hF : Frm [rb] w wr) (hP : pNs n l0 = (pNs (n - k) lr).bind fun b => some (nds X ++ b.1, b.2)) (hrd : Rdr wr rb cb db lr)
    (hp1 : pB lr = some (v1, m1)) (hp2 : pB m1 = some (v2, m2)) (hp3 : pU 8 m2 = some (x3, m3)) (hp4 : pU 8 m3 = some (x4, m4)) (hx3 : x3 < 256 ^ 8) (hx4 : x4 < 256 ^ 8) (hn2 : n2 = v2.length)
    (hb2 : Bytes w2 a2 v2) (hl2 : a2 = none → c2 = 0) (hnw2 : ∀ q, a2 = some q → w1.heap.size ≤ q.block) (h01 : Frm [rb] wr w1) (h12 : Frm [rb] w1 w2) (h24 : Frm [rb] w2 w4) (hr4 : Rdr w4 rb cb db m4) :
    (w4.alloc (.cells #[.string (strOf v1), .slice a2 n2 c2, .int .u64 (x3 : Nat), .int .u64 (x4 : Nat)] 58)).ownsRow w.heap.size 58 4 (.slice a an c) an (nc X) ∧
    ValsAt (w4.alloc (.cells #[.string (strOf v1), .slice a2 n2 c2, .int .u64 (x3 : Nat), .int .u64 (x4 : Nat)] 58)) (some ⟨w4.heap.size, 0, none⟩) (nc [⟨⟨strOf v1, v2, x3, x4⟩, a2, c2⟩]) ∧
    w.heap.size ≤ (w4.alloc (.cells #[.string (strOf v1), .slice a2 n2 c2, .int .u64 (x3 : Nat), .int .u64 (x4 : Nat)] 58)).heap.size ∧
    ∀ a' c' w5, AppS (w4.alloc (.cells #[.string (strOf v1), .slice a2 n2 c2, .int .u64 (x3 : Nat), .int .u64 (x4 : Nat)] 58)) w5 w.heap.size 58 4 (.slice a an c) an 1 (nc X) (nc [⟨⟨strOf v1, v2, x3, x4⟩, a2, c2⟩]) a' c' →
      TnRel F w rb cb db n l0 (.slice a' (an + 1) c') (.int .u16 ((k + 1 : Nat) : Nat)) w5 := by
  subst n2
  subst an
  obtain ⟨W, hW⟩ : ∃ W, W = w4.alloc (.cells #[.string (strOf v1), .slice a2 v2.length c2, .int .u64 (x3 : Nat), .int .u64 (x4 : Nat)] 58) := ⟨_, rfl⟩
  have hval : ValsAt W (some ⟨w4.heap.size, 0, none⟩) (nc [⟨⟨strOf v1, v2, x3, x4⟩, a2, c2⟩]) := by rw [hW]; exact nvals_one w4 ⟨⟨strOf v1, v2, x3, x4⟩, a2, c2⟩ _
  have h14 : Frm [rb] w1 w4 := h12.trans h24 (fun x hx => hx) (fun x hx => .inl hx)
  have h04 : Frm [rb] wr w4 := h01.trans h14 (fun x hx => hx) (fun x hx => .inl hx)
  have h4W : Frm [] w4 W := by rw [hW]; exact (Frm.refl _ _).alloc _
  have h0W : Frm [rb] wr W := h04.trans h4W (fun x hx => hx) (by simp)
  have hwW : Frm [rb] w W := hF.trans h0W (fun x hx => hx) (fun x hx => .inl hx)
  have hOW : NOwn W w.heap.size 58 (rb :: cb :: db :: F) a c X := hO.keep h0W (fun x hx => by simp at hx; subst hx; exact .inl (by simp)) (fun x hx => .inl hx)
  rw [← hW]
  refine ⟨by have h := hOW.own; rw [hXL] at h; exact h, hval, hwW.size, fun a' c' w5 happ => ?_⟩
  have hs1 := h01.size
  have hs0 := hF.size
  have hrb := hDB rb (by simp)
  have hb4 : Bytes W a2 v2 := by
    refine (h24.trans h4W (U := [rb]) (fun x hx => hx) (by simp)).bytes hb2 fun q hq hm => ?_
    have := hnw2 q hq
    simp at hm
    omega
  have hok : NOk W (blk a ++ (rb :: cb :: db :: F)) [⟨⟨strOf v1, v2, x3, x4⟩, a2, c2⟩] := by
    intro y hy
    simp at hy
    subst hy
    refine ⟨hb4, fun _ q hq hm => ?_, hl2, by simpa using hx3, by simpa using hx4, ?_⟩
    · have h1 := hnw2 q hq
      rcases List.mem_append.1 hm with h | h
      · have := hO.blk_lt _ h; omega
      · have := hDB _ h; omega
    · have h1 := pB_len hp1
      have h2 := hrd.fits
      show (strOf v1).size ≤ _
      rw [strOf_size]; omega
  have hFW : ∀ x ∈ (rb :: cb :: db :: F), x < W.heap.size := fun x hx => Nat.lt_of_lt_of_le (hDB x hx) hwW.size
  have g5 := hOW.app hXL.symm hok rfl hFW happ
  have haw := hOW.away
  have hr5 : Rdr w5 rb cb db m4 := (hr4.keep h4W (by simp) (by simp) (by simp)).keep g5.2.1 (fun hm => haw _ hm (by simp)) (fun hm => haw _ hm (by simp)) (fun hm => haw _ hm (by simp))
  have hf5 : Frm [rb] w w5 := hwW.trans g5.2.1 (fun x hx => hx) (fun x hx => .inr (hOW.blk_lt x hx).1)
  have hpn : pN lr = some (⟨strOf v1, v2, x3, x4⟩, m4) := by
    unfold pN
    rw [hp1]; simp only [Option.bind_some]; rw [hp2]; simp only [Option.bind_some]; rw [hp3]; simp only [Option.bind_some]; rw [hp4]; rfl
  refine ⟨k + 1, a', c', k + 1, X ++ [⟨⟨strOf v1, v2, x3, x4⟩, a2, c2⟩], m4, hk, rfl, rfl, Lib.hid rfl, Lib.hid (by rw [List.length_append, hXL]; rfl), Lib.hid g5.1, Lib.hid hr5, Lib.hid hf5, Lib.hid ?_⟩
  have := pNs_step hP hk hpn
  rw [this]
  simp [nds]

set_option maxHeartbeats 16000000 in
theorem takeNodes_any {w : World} {rb cb db : Nat} {l : List Nat} (F : List Nat) (h : Rdr w rb cb db l) (hdb : db < w.heap.size) (hF : ∀ x ∈ F, x < w.heap.size) :
    Calls Tryz.prog 146 #[.pointer (some ⟨rb, 0, none⟩)] w (TkNs F w rb cb db l) := by
  obtain ⟨i0, hi0, hz0, hz1, hz2⟩ := info_parts Tryz.info58
  have HI := Lib.hid hi0; clear hi0
  have HZ0 := Lib.hid hz0; clear hz0
  have HZ1 := Lib.hid hz1; clear hz1
  have HZ2 := Lib.hid hz2; clear hz2
  have HN := Lib.hid (tk_u16 h hdb)
  have hlt := h.lt
  have HDB : Hid (∀ x ∈ (rb :: cb :: db :: F), x < w.heap.size) := Lib.hid (by intro x hx; simp at hx; rcases hx with rfl | rfl | rfl | hx; exact hlt.1; exact hlt.2; exact hdb; exact hF x hx)
  obtain ⟨Q, hQ⟩ : ∃ Q, Q = TkNs F w rb cb db l := ⟨_, rfl⟩
  rw [← hQ]
  have HQ := Lib.hid hQ
  clear h hdb hlt hQ hF
  go_enter Tryz.func146, Tryz.ntmps146
  go_wp2_with fail
  (with_reducible refine HN.out.mono ?_)
  rintro e w1 (⟨n, m1, hp, hn16, rfl, hr, hf⟩ | ⟨hp, rfl, h1, h2⟩)
  case inr => exact ⟨rfl, by rw [HQ.out]; exact .inr ⟨by unfold pCN; rw [hp]; rfl, rfl, h1, h2⟩⟩
  have hn16' : n < 65536 := by simpa using hn16
  have HP := Lib.hid hp
  have HR0 : Hid (TnRel F w rb cb db n m1 (.slice none 0 0) (.int .u16 (0 : Nat)) w1) := Lib.hid ⟨0, none, 0, 0, [], m1, Nat.zero_le _, rfl, rfl, Lib.hid rfl, Lib.hid rfl, Lib.hid (NOwn.nil _ _ _ _), Lib.hid hr, Lib.hid hf, Lib.hid (by cases pNs n m1 <;> simp [nds])⟩
  clear hp hr hf HN hn16
  go_wp2
  go_loopw [3, 6] (fun s3 s6 wr => TnRel F w rb cb db n m1 s3 s6 wr) (fun _ s6 _ => n - (intOf s6).toNat)
  case atStart => exact HR0.out
  case round =>
    clear HR0
    obtain ⟨k, a, c, an, X, lr, hk, rfl, rfl, HAN, HXL, HO, HRD, HF, HPX⟩ := hrel
    by_cases hlt : k < n
    · have hsz := HF.out.size
      have HDBr : Hid (∀ x ∈ (rb :: cb :: db :: F), x < wr.heap.size) := Lib.hid fun x hx => Nat.lt_of_lt_of_le (HDB.out x hx) hsz
      have HB0 := Lib.hid (tk_bytes (HRD.out.keep (Frm.refl [] wr).drew (by simp) (by simp) (by simp)) (show db < wr.drew.heap.size from HDBr.out db (by simp)))
      have BAD : Hid (∀ (z : World) (e : Ending) (w' : World), Frm [rb] wr z → pN lr = none → Thrown z rb cb 4 e w' → Q e w') := Lib.hid fun z e w' hf2 hpx ht => by
        rw [HQ.out]
        exact .inr ⟨by unfold pCN; rw [HP.out]; exact pNs_cut HPX.out hlt hpx, ht.early (HF.out.trans hf2 (fun x hx => hx) (fun x hx => .inl hx))⟩
      have hank : an + 1 ≤ 1000000000 := by have := HAN.out; omega
      have s0 : Frm [rb] wr wr.drew := (Frm.refl _ _).drew
      have hk2 : IntKind.u16.wrap ((k : Int) + 1) = ((k + 1 : Nat) : Int) := by
        have hk1 : ((k : Int) + 1) % 65536 = ((k + 1 : Nat) : Int) := by omega
        rw [← hk1]; simp [IntKind.wrap, IntKind.bits, IntKind.signed]
      clear hsz HP
      go_wp2
      go_region_law (first
        | (go_simp; go_at_call 147; (with_reducible refine HB0.out.mono ?_); rintro e w1 (⟨v1, m1, a1, n1, c1, hp1, hn1, rfl, hb1, hl1, hnw1, hr1, hf1⟩ | ⟨hp1, ht⟩); rotate_left 1; (have hb := BAD.out _ _ _ s0 (by unfold pN; rw [hp1]; rfl) ht; obtain ⟨rfl, _⟩ := ht; exact ⟨rfl, hb⟩); have s1 : Frm [rb] wr w1 := s0.trans hf1 (fun x hx => hx) (fun x hx => .inl hx); have t1 : Frm [rb] w1 w1 := Frm.refl _ _; have cv1 : ∀ y, Frm [rb] w1 y → (Go.convert 36 9 (.slice a1 n1 c1)).run Tryz.prog y = .ok (.string (strOf v1)) y := fun y hy => run_to_string (P := Tryz.prog) (src := 36) (dst := 9) (e := 5) Tryz.underlying36 Tryz.underlying5 Tryz.underlying9 (hy.bytes hb1 (fun q hq hm => by have h1 := hnw1.out q hq; have h2 := HDBr.out rb (by simp); have h3 := s0.size; simp at hm; omega)) hn1.out)
        | (go_simp; go_at_call 147; (with_reducible refine (tk_bytes hr1 (by have := HDBr.out db (by simp); have := s1.size; omega)).mono ?_); rintro e w2 (⟨v2, m2, a2, n2, c2, hp2, hn2, rfl, hb2, hl2, hnw2, hr2, hf2⟩ | ⟨hp2, ht⟩); rotate_left 1; (have hb := BAD.out _ _ _ s1 (by unfold pN; rw [hp1]; simp only [Option.bind_some]; rw [hp2]; rfl) ht; obtain ⟨rfl, _⟩ := ht; exact ⟨rfl, hb⟩); have s2 : Frm [rb] wr w2 := s1.trans hf2 (fun x hx => hx) (fun x hx => .inl hx); have t2 : Frm [rb] w1 w2 := hf2)
        | (go_simp; go_at_call 74; (with_reducible refine (tk_u64 hr2 (by have := HDBr.out db (by simp); have := s2.size; omega)).mono ?_); rintro e w3 (⟨x3, m3, hp3, hx3, rfl, hr3, hf3⟩ | ⟨hp3, ht⟩); rotate_left 1; (have hb := BAD.out _ _ _ s2 (by unfold pN; rw [hp1]; simp only [Option.bind_some]; rw [hp2]; simp only [Option.bind_some]; rw [hp3]; rfl) ht; obtain ⟨rfl, _⟩ := ht; exact ⟨rfl, hb⟩); have s3 : Frm [rb] wr w3 := s2.trans hf3 (fun x hx => hx) (fun x hx => .inl hx); have t3 : Frm [rb] w1 w3 := t2.trans hf3 (fun x hx => hx) (fun x hx => .inl hx))
        | (go_simp; go_at_call 74; (with_reducible refine (tk_u64 hr3 (by have := HDBr.out db (by simp); have := s3.size; omega)).mono ?_); rintro e w4 (⟨x4, m4, hp4, hx4, rfl, hr4, hf4⟩ | ⟨hp4, ht⟩); rotate_left 1; (have hb := BAD.out _ _ _ s3 (by unfold pN; rw [hp1]; simp only [Option.bind_some]; rw [hp2]; simp only [Option.bind_some]; rw [hp3]; simp only [Option.bind_some]; rw [hp4]; rfl) ht; obtain ⟨rfl, _⟩ := ht; exact ⟨rfl, hb⟩); have t4 : Frm [rb] w1 w4 := t3.trans hf4 (fun x hx => hx) (fun x hx => .inl hx); have HST := Lib.hid (tn_step HDB.out hlt HAN.out HXL.out HO.out HF.out HPX.out HRD.out hp1 hp2 hp3 hp4 hx3 hx4 hn2.out hb2 hl2 hnw2.out s1 hf2 (hf3.trans hf4 (U := [rb]) (fun x hx => hx) (fun x hx => .inl hx)) hr4))
        | (refine step_appS (by rfl) (.tmp 8) (.tmp 19) 28 rfl w.heap.size 58 i0 (.agg #[.string ⟨#[]⟩, .slice none 0 0, .int .u64 0, .int .u64 0]) 4 56 Tryz.underlying28 HI.out HZ0.out rfl (by decide) HZ1.out HZ2.out (by decide) (.slice a an c) an _ rfl HST.out.1 _ 1 1 _ rfl HST.out.2.1 rfl (nc_one _) (fun h => by cases h) hank HST.out.2.2.1 (an + 1) rfl ?_; intro a5 c5 w5 happ5; have HREL := Lib.hid (HST.out.2.2.2 a5 c5 w5 happ5); clear happ5))
      all_goals
        clear HST cv1 hb1 hb2 hr1 hr2 hr3 hr4 hf1 hf2 hf3 hf4 s1 s2 s3 t1 t2 t3 t4 hp1 hp2 hp3 hp4 hx3 hx4 hn1 hn2 hl1 hl2 hnw1 hnw2
        go_wp2
        go_roundw
        case rel => exact HREL.out
        case measure => simp [intOf]; omega
    · obtain rfl : k = n := by omega
      have HE : Hid (Q (.returned (.slice a an c)) wr) := Lib.hid (by
        rw [HQ.out]
        refine .inl ⟨X, lr, a, c, ?_, by rw [HXL.out]; exact hn16', by rw [HAN.out, HXL.out], HO.out, HRD.out, HF.out⟩
        unfold pCN
        rw [HP.out]
        simp only [Option.bind_some]
        rw [HPX.out, Nat.sub_self]
        show some (nds X ++ [], lr) = _
        rw [List.append_nil])
      go_wp2
      exact HE.out
end Go.Proofs.YtcbpppdmkhpkkaaGreat
/- Contract of the reader's Fail. -/
namespace Go.Proofs.YtcbpppdmkhpkkaaGreat
open Go.RowKit
set_option maxRecDepth 100000
theorem fail0_any {w : World} {rb : Nat} :
    Calls Tryz.prog 122 #[.pointer (some ⟨rb, 0, none⟩), .int .i64 0] w (fun e w' => e = .returned (.tuple #[]) ∧ w' = w) := by
  go_enter Tryz.func122, Tryz.ntmps122
  go_wp2
  go_end0
  exact ⟨rfl, rfl⟩
theorem fail1_any {w : World} {rb cb db : Nat} {l : List Nat} (c : Nat) (h : Rdr w rb cb db l) (hc : c ≠ 0) :
    Calls Tryz.prog 122 #[.pointer (some ⟨rb, 0, none⟩), .int .i64 c] w (Thrown w rb cb c) := by
  have H := Lib.hid h
  have hne : ((c : Int) == 0) = false := by simp; omega
  have hne2 : ((c : Int) != 0) = true := by simp; omega
  clear h hc
  go_enter Tryz.func122, Tryz.ntmps122
  go_wp2_with fail
  refine (reads_any H.out).mono ?_
  rintro e w' ⟨rfl, rfl⟩
  go_wp2_with fail
  refine (throw_any c H.out).mono ?_
  rintro e w3 ⟨rfl, h1, h2⟩
  exact ⟨rfl, rfl, h1, h2⟩
end Go.Proofs.YtcbpppdmkhpkkaaGreat
/- A state taken as the parser says; contract of takeState. -/
namespace Go.Proofs.YtcbpppdmkhpkkaaGreat
open Go.RowKit
set_option maxRecDepth 100000
def TkS (F : List Nat) (w : World) (rb cb db : Nat) (l : List Nat) (e : Ending) (w' : World) : Prop :=
  (∃ S m tp bp, pS l = some (S, m) ∧ pOk S ∧ e = .returned (.agg #[.int .u64 (S.now : Nat), .pointer (some ⟨tp, 0, none⟩), .pointer (some ⟨bp, 0, none⟩)]) ∧ Kd w' w.heap.size F tp bp S.nodes S.last S.ses ∧ Rdr w' rb cb db m ∧ Frm [rb] w w') ∨
  ((∀ S m, pS l = some (S, m) → ¬ pOk S) ∧ ∃ c : Nat, c ≠ 0 ∧ Thrown w rb cb c e w')
theorem pS_of {l l1 l2 l3 l4 : List Nat} {x1 x2 : Nat} {X : List Sn} {M : List Nd} (h1 : pU 8 l = some (x1, l1)) (h2 : pU 8 l1 = some (x2, l2)) (h3 : pCX l2 = some (X, l3)) (h4 : pCN l3 = some (M, l4)) : pS l = some (⟨x1, M, x2, X⟩, l4) := by
  unfold pS
  rw [h1]; simp only [Option.bind_some]; rw [h2]; simp only [Option.bind_some]; rw [h3]; simp only [Option.bind_some]; rw [h4]; rfl
theorem pS_none {l : List Nat} (h : pS l = none) : ∀ S m, pS l = some (S, m) → ¬ pOk S := fun S m h' => by rw [h] at h'; cases h'

set_option maxHeartbeats 16000000 in
theorem takeState_any {w : World} {rb cb db : Nat} {l : List Nat} (F : List Nat) (h : Rdr w rb cb db l) (hdb : db < w.heap.size) (hF : ∀ x ∈ F, x < w.heap.size) :
    Calls Tryz.prog 120 #[.pointer (some ⟨rb, 0, none⟩)] w (TkS F w rb cb db l) := by
  obtain ⟨w0, hw0⟩ : ∃ w0, w0 = w.alloc (.cells #[.int .u64 0, .pointer none, .pointer none] 85) := ⟨_, rfl⟩
  obtain ⟨g, hg⟩ : ∃ g, g = w.heap.size := ⟨_, rfl⟩
  have hW := Whole.made w 85 #[.int .u64 0, .pointer none, .pointer none]
  rw [← hw0, ← hg] at hW
  have hf0 : Frm [] w w0 := by rw [hw0]; exact (Frm.refl _ _).alloc _
  have hlt := h.lt
  have HGL := Lib.hid hW.lt
  have HF0 := Lib.hid hf0
  have HW0 := Lib.hid hw0
  have HG := Lib.hid hg
  have HDB : Hid (∀ x ∈ rb :: cb :: db :: F, x < w.heap.size) := Lib.hid (by intro x hx; simp at hx; rcases hx with rfl | rfl | rfl | hx; exact hlt.1; exact hlt.2; exact hdb; exact hF x hx)
  have HLT : Hid (∀ z, Frm [rb] w0 z → db < z.heap.size) := Lib.hid fun z hz => by have := hz.size; have := hf0.size; omega
  have HN1 := Lib.hid (tk_u64 (h.keep hf0 (by simp) (by simp) (by simp)) (show db < w0.heap.size by have := hf0.size; omega))
  have HCE := Lib.hid (fun (z : World) (hz : Frm [rb] w0 z) => hz.whole hW (by simp; omega))
  obtain ⟨Q, hQ⟩ : ∃ Q, Q = TkS F w rb cb db l := ⟨_, rfl⟩
  rw [← hQ]
  have ER : Hid (∀ (z : World) (e : Ending) (w' : World) (c : Nat), c ≠ 0 → Frm [rb] w0 z → (∀ S m, pS l = some (S, m) → ¬ pOk S) → Thrown z rb cb c e w' → Q e w') := Lib.hid fun z e w' c hc hz hp ht => by rw [hQ]; exact .inr ⟨hp, c, hc, ht.early (hf0.trans hz (U := [rb]) (by simp) (fun x hx => .inl hx))⟩
  have HQ := Lib.hid hQ
  clear h hdb hW hf0 hlt hw0 hg hF hQ
  go_enter Tryz.func120, Tryz.ntmps120
  go_wp2_with fail
  rw [← HW0.out]
  (with_reducible refine HN1.out.mono ?_)
  rintro e w1 (⟨x1, l1, hp1, hx1, rfl, hr1, hf1⟩ | ⟨hp1, ht⟩)
  case inr =>
    have hb := ER.out _ _ _ 4 (by decide) (Frm.refl _ _) (pS_none (by unfold pS; rw [hp1]; rfl)) ht
    obtain ⟨rfl, _⟩ := ht
    exact ⟨rfl, hb⟩
  have HF1 := Lib.hid hf1
  have HP1 := Lib.hid hp1
  have HN2 := Lib.hid (tk_u64 hr1 (HLT.out _ hf1))
  clear hr1 hf1 hp1 HN1
  go_wp2_with fail
  (with_reducible refine HN2.out.mono ?_)
  rintro e w2 (⟨x2, l2, hp2, hx2, rfl, hr2, hf2⟩ | ⟨hp2, ht⟩)
  case inr =>
    have hb := ER.out _ _ _ 4 (by decide) HF1.out (pS_none (by unfold pS; rw [HP1.out]; simp only [Option.bind_some]; rw [hp2]; rfl)) ht
    obtain ⟨rfl, _⟩ := ht
    exact ⟨rfl, hb⟩
  have HF2 := Lib.hid (HF1.out.trans hf2 (U := [rb]) (fun x hx => hx) (fun x hx => .inl hx))
  have HP2 := Lib.hid hp2
  have HN3 := Lib.hid (takeSessions_any hr2 (HLT.out _ HF2.out))
  clear hr2 hf2 hp2 HN2
  go_wp2_with fail
  (with_reducible refine HN3.out.mono ?_)
  rintro e w3 (⟨X, l3, a3, c3, hp3, hX3, rfl, ho3, hr3, hf3⟩ | ⟨hp3, ht⟩)
  case inr =>
    have hb := ER.out _ _ _ 4 (by decide) HF2.out (pS_none (by unfold pS; rw [HP1.out]; simp only [Option.bind_some]; rw [HP2.out]; simp only [Option.bind_some]; rw [hp3]; rfl)) ht
    obtain ⟨rfl, _⟩ := ht
    exact ⟨rfl, hb⟩
  have HF3 := Lib.hid (HF2.out.trans hf3 (U := [rb]) (fun x hx => hx) (fun x hx => .inl hx))
  have HP3 := Lib.hid hp3
  have HR3 := Lib.hid hr3
  have HN4 := Lib.hid (bknew_any (n := X.length) (cap := c3) (last := x2) (ho3.sl.keep (S := []) (F' := []) (Frm.refl _ _) (by simp) (by simp)) rfl (by omega) (by simpa using hx2))
  clear hr3 hf3 hp3 HN3
  go_wp2_with fail
  (with_reducible refine HN4.out.mono ?_)
  rintro e w4 (⟨hR, bp, Y, rfl, hbk, hf4⟩ | ⟨hR, rfl, hf4⟩)
  · have HF4 := Lib.hid (HF3.out.trans hf4 (U := [rb]) (fun x hx => hx) (by simp))
    have HBK := Lib.hid hbk
    have HBL := Lib.hid (show w.heap.size ≤ bp ∧ bp < w4.heap.size from ⟨by have h1 := hbk.hp; have h2 := HF3.out.size; have h3 := HF0.out.size; omega, hbk.book.lt⟩)
    have HBL3 := Lib.hid (show g < bp from by have h1 := hbk.hp; have h2 := HF3.out.size; have h3 := HGL.out; omega)
    have HBP : Hid (∀ x ∈ bp :: g :: F, x < w4.heap.size) := Lib.hid (by intro x hx; rcases List.mem_cons.1 hx with rfl | hx; exact HBL.out.2; rcases List.mem_cons.1 hx with rfl | hx; have h2 := HF4.out.size; have h1 := HGL.out; omega; have h1 := HDB.out x (by simp [hx]); have h2 := HF4.out.size; have h3 := HF0.out.size; omega)
    have HN5 := Lib.hid (takeNodes_any (bp :: g :: F) (HR3.out.keep hf4 (by simp) (by simp) (by simp)) (HLT.out _ HF4.out) HBP.out)
    clear hf4 hbk
    go_wp2_with fail
    (with_reducible refine HN5.out.mono ?_)
    rintro e w5 (⟨M, l5, a5, c5, hp5, hM5, rfl, ho5, hr5, hf5⟩ | ⟨hp5, ht⟩)
    case inr =>
      have hb := ER.out _ _ _ 4 (by decide) HF4.out (pS_none (by unfold pS; rw [HP1.out]; simp only [Option.bind_some]; rw [HP2.out]; simp only [Option.bind_some]; rw [HP3.out]; simp only [Option.bind_some]; rw [hp5]; rfl)) ht
      obtain ⟨rfl, _⟩ := ht
      exact ⟨rfl, hb⟩
    have HPS := Lib.hid (pS_of HP1.out HP2.out HP3.out hp5)
    have HF5 := Lib.hid (HF4.out.trans hf5 (U := [rb]) (fun x hx => hx) (fun x hx => .inl hx))
    have HN6 := Lib.hid (load_any a5 M.length c5 M (bp :: g :: F) w5 (ho5.nl.keep (S := []) (Frm.refl _ _) (by simp) (fun x hx => .inl (by simp at hx; simp [hx]))) rfl (by omega) (fun x hx => Nat.lt_of_lt_of_le (HBP.out x hx) hf5.size))
    have HR5 := Lib.hid hr5
    have HF45 := Lib.hid hf5
    clear hr5 hf5 hp5 ho5 HN5
    go_wp2_with fail
    (with_reducible refine HN6.out.mono ?_)
    rintro e w6 (⟨hL, rfl, hf6⟩ | ⟨hL, tp, a6, c6, L6, qs6, rfl, hpt, hn6, hf6⟩)
    · have HF6 := Lib.hid (HF5.out.trans hf6 (U := [rb]) (fun x hx => hx) (by simp))
      have HR6 := Lib.hid (HR5.out.keep hf6 (by simp) (by simp) (by simp))
      clear HN6
      clear hf6
      by_cases hnow : 1099511627776 < x1
      · have d1 : decide ((1099511627776 : Int) < (x1 : Int)) = true := decide_eq_true (by omega)
        go_wp2_with fail
        refine (fail1_any 23 HR6.out (by decide)).mono ?_
        rintro e w7 ht
        have hb := ER.out _ _ _ 23 (by decide) HF6.out (fun S m hS => by rw [HPS.out] at hS; cases hS; exact fun hk => hL hk.2.2) ht
        obtain ⟨rfl, _⟩ := ht
        exact ⟨rfl, hb⟩
      · have d1 : decide ((1099511627776 : Int) < (x1 : Int)) = false := decide_eq_false (by omega)
        go_wp2_with fail
        refine (fail1_any 23 HR6.out (by decide)).mono ?_
        rintro e w7 ht
        have hb := ER.out _ _ _ 23 (by decide) HF6.out (fun S m hS => by rw [HPS.out] at hS; cases hS; exact fun hk => hL hk.2.2) ht
        obtain ⟨rfl, _⟩ := ht
        exact ⟨rfl, hb⟩
    · have HF6 := Lib.hid (HF5.out.trans hf6 (U := [rb]) (fun x hx => hx) (by simp))
      have HR6 := Lib.hid (HR5.out.keep hf6 (by simp) (by simp) (by simp))
      clear HN6
      by_cases hnow : 1099511627776 < x1
      · have d1 : decide ((1099511627776 : Int) < (x1 : Int)) = true := decide_eq_true (by omega)
        clear hf6 hpt
        go_wp2_with fail
        refine (fail1_any 23 HR6.out (by decide)).mono ?_
        rintro e w7 ht
        have hb := ER.out _ _ _ 23 (by decide) HF6.out (fun S m hS => by rw [HPS.out] at hS; cases hS; exact fun hk => absurd hk.1 (Nat.not_le.2 hnow)) ht
        obtain ⟨rfl, _⟩ := ht
        exact ⟨rfl, hb⟩
      · have d1 : decide ((1099511627776 : Int) < (x1 : Int)) = false := decide_eq_false (by omega)
        obtain ⟨wz, hz⟩ : ∃ wz, wz = ((w6.setCell ⟨g, 0, none⟩ (.int .u64 (x1 : Nat))).setCell ⟨g, 1, none⟩ (.pointer (some ⟨tp, 0, none⟩))).setCell ⟨g, 2, none⟩ (.pointer (some ⟨bp, 0, none⟩)) := ⟨_, rfl⟩
        have hW6 := HCE.out w6 HF6.out
        have g0 := hW6.cell 0
        have g1 := hW6.cell 1
        have g2 := hW6.cell 2
        have k0 := hW6.free 0
        have k1 := hW6.free 1
        have k2 := hW6.free 2
        simp at g0 g1 g2 k0 k1 k2
        have hWz : Whole wz g 85 #[.int .u64 (x1 : Nat), .pointer (some ⟨tp, 0, none⟩), .pointer (some ⟨bp, 0, none⟩)] := by rw [hz]; exact ((hW6.put 0 _).put 1 _).put 2 _
        have hfz : Frm [g] w6 wz := by rw [hz]; exact (((Frm.refl _ _).setCell (.inl (by simp)) _).setCell (.inl (by simp)) _).setCell (.inl (by simp)) _
        have y0 := hWz.cell 0
        have y1 := hWz.cell 1
        have y2 := hWz.cell 2
        simp at y0 y1 y2
        have HEND : Hid (Q (.returned (.agg #[.int .u64 (x1 : Nat), .pointer (some ⟨tp, 0, none⟩), .pointer (some ⟨bp, 0, none⟩)])) wz) := Lib.hid (by
          have e0 := HF0.out.size
          have e1 := HF4.out.size
          have e2 := HF45.out.size
          have e3 := HG.out
          have e4 := HBL.out
          have e5 := hpt.hp
          have e6 := hpt.tree.lt
          have e7 := HGL.out
          have hgF : g ∉ F := fun hm => by have := HDB.out g (by simp [hm]); omega
          have hgR : g ≠ rb ∧ g ≠ cb ∧ g ≠ db := ⟨fun hm => by have := HDB.out g (by simp [hm]); omega, fun hm => by have := HDB.out g (by simp [hm]); omega, fun hm => by have := HDB.out g (by simp [hm]); omega⟩
          have hF56 : Frm [rb] w4 w6 := HF45.out.trans hf6 (fun x hx => hx) (by simp)
          have hrbp : bp ∉ [rb] := fun hm => by have := HDB.out rb (by simp); simp at hm; omega
          have hKd : Kd w6 w.heap.size (g :: F) tp bp (nds M) x2 X := ⟨⟨a6, c6, L6, qs6, { hpt with hp := by omega }, hn6⟩, ⟨Y, { HBK.out.keep hF56 hrbp with hp := e4.1 }⟩, fun hm => by
            rcases List.mem_cons.1 hm with h1 | h1
            · have := HBL3.out; omega
            · have := HDB.out bp (by simp [h1]); omega⟩
          rw [HQ.out]
          refine .inl ⟨⟨x1, nds M, x2, X⟩, l5, tp, bp, HPS.out, ⟨by show x1 ≤ _; omega, hR, hL⟩, rfl, ?_, HR6.out.keep hfz (by simp; omega) (by simp; omega) (by simp; omega), ((HF0.out.trans HF6.out (U := [rb]) (by simp) (fun x hx => .inl hx)).trans hfz (fun x hx => hx) (fun x hx => .inr (by simp at hx; omega)))⟩
          exact hKd.keep hfz (fun x hx => .inl (by simp at hx; simp [hx])) (fun x hx => .inl (by simp [hx])))
        rw [← HG.out]
        clear hf6 hpt hWz hfz hW6
        have HZ := Lib.hid hz
        clear hz
        go_wp2
        rw [← HZ.out]
        refine bodyPost_ret (v := .agg #[.int .u64 (x1 : Nat), .pointer (some ⟨tp, 0, none⟩), .pointer (some ⟨bp, 0, none⟩)]) ?_ rfl ?_
        · simp [results, Tryz.results120, go_sem, y0, y1, y2]
        · exact HEND.out
  · have HF4 := Lib.hid (HF3.out.trans hf4 (U := [rb]) (fun x hx => hx) (by simp))
    have HBP : Hid (∀ x ∈ F, x < w4.heap.size) := Lib.hid (fun x hx => by have h1 := HDB.out x (by simp [hx]); have h2 := HF4.out.size; have h3 := HF0.out.size; omega)
    have HN5 := Lib.hid (takeNodes_any F (HR3.out.keep hf4 (by simp) (by simp) (by simp)) (HLT.out _ HF4.out) HBP.out)
    clear hf4 
    go_wp2_with fail
    (with_reducible refine HN5.out.mono ?_)
    rintro e w5 (⟨M, l5, a5, c5, hp5, hM5, rfl, ho5, hr5, hf5⟩ | ⟨hp5, ht⟩)
    case inr =>
      have hb := ER.out _ _ _ 4 (by decide) HF4.out (pS_none (by unfold pS; rw [HP1.out]; simp only [Option.bind_some]; rw [HP2.out]; simp only [Option.bind_some]; rw [HP3.out]; simp only [Option.bind_some]; rw [hp5]; rfl)) ht
      obtain ⟨rfl, _⟩ := ht
      exact ⟨rfl, hb⟩
    have HPS := Lib.hid (pS_of HP1.out HP2.out HP3.out hp5)
    have HF5 := Lib.hid (HF4.out.trans hf5 (U := [rb]) (fun x hx => hx) (fun x hx => .inl hx))
    have HN6 := Lib.hid (load_any a5 M.length c5 M F w5 (ho5.nl.keep (S := []) (Frm.refl _ _) (by simp) (fun x hx => .inl (by simp [hx]))) rfl (by omega) (fun x hx => Nat.lt_of_lt_of_le (HBP.out x hx) hf5.size))
    have HR5 := Lib.hid hr5
    have HF45 := Lib.hid hf5
    clear hr5 hf5 hp5 ho5 HN5
    go_wp2_with fail
    (with_reducible refine HN6.out.mono ?_)
    rintro e w6 (⟨hL, rfl, hf6⟩ | ⟨hL, tp, a6, c6, L6, qs6, rfl, hpt, hn6, hf6⟩)
    · have HF6 := Lib.hid (HF5.out.trans hf6 (U := [rb]) (fun x hx => hx) (by simp))
      have HR6 := Lib.hid (HR5.out.keep hf6 (by simp) (by simp) (by simp))
      clear HN6
      clear hf6
      by_cases hnow : 1099511627776 < x1
      · have d1 : decide ((1099511627776 : Int) < (x1 : Int)) = true := decide_eq_true (by omega)
        go_wp2_with fail
        refine (fail1_any 23 HR6.out (by decide)).mono ?_
        rintro e w7 ht
        have hb := ER.out _ _ _ 23 (by decide) HF6.out (fun S m hS => by rw [HPS.out] at hS; cases hS; exact fun hk => hR hk.2.1) ht
        obtain ⟨rfl, _⟩ := ht
        exact ⟨rfl, hb⟩
      · have d1 : decide ((1099511627776 : Int) < (x1 : Int)) = false := decide_eq_false (by omega)
        go_wp2_with fail
        refine (fail1_any 23 HR6.out (by decide)).mono ?_
        rintro e w7 ht
        have hb := ER.out _ _ _ 23 (by decide) HF6.out (fun S m hS => by rw [HPS.out] at hS; cases hS; exact fun hk => hR hk.2.1) ht
        obtain ⟨rfl, _⟩ := ht
        exact ⟨rfl, hb⟩
    · have HF6 := Lib.hid (HF5.out.trans hf6 (U := [rb]) (fun x hx => hx) (by simp))
      have HR6 := Lib.hid (HR5.out.keep hf6 (by simp) (by simp) (by simp))
      clear HN6
      clear hf6 hpt
      by_cases hnow : 1099511627776 < x1
      · have d1 : decide ((1099511627776 : Int) < (x1 : Int)) = true := decide_eq_true (by omega)
        go_wp2_with fail
        refine (fail1_any 23 HR6.out (by decide)).mono ?_
        rintro e w7 ht
        have hb := ER.out _ _ _ 23 (by decide) HF6.out (fun S m hS => by rw [HPS.out] at hS; cases hS; exact fun hk => hR hk.2.1) ht
        obtain ⟨rfl, _⟩ := ht
        exact ⟨rfl, hb⟩
      · have d1 : decide ((1099511627776 : Int) < (x1 : Int)) = false := decide_eq_false (by omega)
        go_wp2_with fail
        refine (fail1_any 23 HR6.out (by decide)).mono ?_
        rintro e w7 ht
        have hb := ER.out _ _ _ 23 (by decide) HF6.out (fun S m hS => by rw [HPS.out] at hS; cases hS; exact fun hk => hR hk.2.1) ht
        obtain ⟨rfl, _⟩ := ht
        exact ⟨rfl, hb⟩
end Go.Proofs.YtcbpppdmkhpkkaaGreat
/- Contract of Read, with a word on where its own blocks lie. -/
namespace Go.Proofs.YtcbpppdmkhpkkaaGreat
open Go.RowKit
set_option maxRecDepth 100000
def ReadRet8 (w : World) (Q : World → Int → Prop) (e : Ending) (w' : World) : Prop :=
  ∃ w2 c T, e = .returned (.int .i64 c) ∧ Q w2 c ∧ Frm T w2 w' ∧ ∀ x ∈ T, w.heap.size ≤ x ∧ x < w.heap.size + 2
theorem Told.two {w w1 : World} {rb cb db : Nat} {l : List Nat} (h : Told w w1 rb cb db l) : w.heap.size + 2 ≤ w1.heap.size := by
  have h1 := h.rdr.lt
  have h2 := h.rdr.ne
  have h3 := h.hr
  have h4 := h.hc
  omega
set_option maxHeartbeats 1000000 in
theorem read_ret8 (G : FuncId) (cp : Array Value) (a : Option Addr) (n cap : Nat) (l : List Nat) (w : World) (Q : World → List Nat → Prop) (hl : Bytes w a l) (hn : n = l.length) (hnil : a = none → cap = 0) (hfit : n ≤ 140737488355328)
    (hG : ∀ args w, (callFunc G args).run Tryz.prog w = .ok (.enter G args) w)
    (hby : ∀ w1 rb cb db, Told w w1 rb cb db l → Calls Tryz.prog G (#[.pointer (some ⟨rb, 0, none⟩)] ++ cp) w1 (ByRet w w1 rb cb db Q)) :
    Calls Tryz.prog 72 #[.slice a n cap, .func (.func G) #[] cp] w (ReadRet8 w fun w2 c => ∃ rest, Q w2 rest ∧ c = if rest = [] then 0 else 5) := by
  have hmf : ∀ (fn : Fn) (first cap : Array Value) (w : World), (Instr.makeFunc fn first cap).run Tryz.prog w = .ok (.func fn first cap) w := fun _ _ _ _ => rfl
  have hq : ∀ (w : World), (binOp .eql 147 (.func (.func G) #[] cp) .nilFunc).run Tryz.prog w = .ok (.bool false) w := by
    intro w; kernel_rfl
  have HB := Lib.hid hby; clear hby
  have HL := Lib.hid hl; clear hl
  have HN := Lib.hid hn; clear hn
  go_enter_defers Tryz.func72, Tryz.ntmps72
  go_wp2
  clear hq
  obtain ⟨w0, hw0⟩ : ∃ w0, w0 = ((w.alloc (Obj.cells #[Value.int IntKind.i64 0] 43)).alloc (Obj.cells #[Value.bool false, Value.int IntKind.i64 0] 184)).alloc (Obj.cells #[Value.pointer (some ⟨w.heap.size + 1, 0, none⟩)] 182) := ⟨_, rfl⟩
  rw [← hw0]
  obtain ⟨eb, heb⟩ : ∃ eb, eb = w.heap.size := ⟨_, rfl⟩
  obtain ⟨cb, hcb⟩ : ∃ cb, cb = w.heap.size + 1 := ⟨_, rfl⟩
  obtain ⟨ob, hob⟩ : ∃ ob, ob = w.heap.size + 1 + 1 := ⟨_, rfl⟩
  have he0 : Whole w0 eb 43 #[.int .i64 0] := by rw [hw0, heb]; exact ((Whole.made w _ _).alloc _).alloc _
  have hc0 : Whole w0 cb 184 #[.bool false, .int .i64 0] := by rw [hw0, hcb]; exact (Whole.made' _ _ (by simp)).alloc _
  have ho0 : Whole w0 ob 182 #[.pointer (some ⟨cb, 0, none⟩)] := by rw [hw0, hob, hcb]; exact Whole.made' _ _ (by simp)
  have hf0 : Frm [] w w0 := by rw [hw0]; exact (((Frm.refl _ _).alloc _).alloc _).alloc _
  rw [← hob, ← hcb, ← heb]
  have hsz : w0.heap.size = w.heap.size + 3 := by rw [hw0]; simp
  clear hw0
  have k0 := ho0.cell 0
  simp at k0
  have hoblt := ho0.lt
  have HE := Lib.hid he0; clear he0
  have HC := Lib.hid hc0; clear hc0
  have HO := Lib.hid ho0; clear ho0
  have HF := Lib.hid hf0; clear hf0
  have E1 := Lib.hid heb; clear heb
  have E2 := Lib.hid hcb; clear hcb
  have E3 := Lib.hid hob; clear hob
  have E4 := Lib.hid hsz; clear hsz
  go_region_held3 (fun w' => w'.cell? ⟨ob, 0, none⟩ = some (.pointer (some ⟨cb, 0, none⟩))) (first | go_keep | (rw [hfrm.cell (by simpa using hoblt) (by simp)]; assumption)) ((go_at_call 88; refine (clone_any a n cap l _ (HF.out.drew.bytes HL.out (by simp)) HN.out hnil hfit).mono ?_; rintro e w1 ⟨a', cap', rfl, hown, hfrm⟩))
  obtain ⟨db, htold⟩ := told_mk HL.out.1 HC.out HO.out HF.out E2.out E3.out hown hfrm
  have ho1 := (hfrm.undrew.whole HO.out (by simp)).alloc (.cells #[.slice a' l.length cap', .pointer (some ⟨cb, 0, none⟩)] 186)
  have he1 := (hfrm.undrew.whole HE.out (by simp)).alloc (.cells #[.slice a' l.length cap', .pointer (some ⟨cb, 0, none⟩)] 186)
  have hne1 : ob < w1.heap.size := Nat.lt_of_lt_of_le HO.out.lt hfrm.undrew.size
  have hne2 : eb < w1.heap.size := Nat.lt_of_lt_of_le HE.out.lt hfrm.undrew.size
  clear hown hfrm
  obtain ⟨W, hW⟩ : ∃ W, W = w1.alloc (Obj.cells #[Value.slice a' l.length cap', Value.pointer (some ⟨cb, 0, none⟩)] 186) := ⟨_, rfl⟩
  rw [← hW] at htold ho1 he1 ⊢
  obtain ⟨rb, hrb⟩ : ∃ rb, rb = w1.heap.size := ⟨_, rfl⟩
  rw [← hrb] at htold hne1 hne2 ⊢
  clear hW hrb
  have HT := Lib.hid htold; clear htold
  have HO1 := Lib.hid ho1; clear ho1
  have HE1 := Lib.hid he1; clear he1
  clear k0 hoblt
  go_wp2_with fail
  refine (HB.out _ _ _ _ HT.out).mono ?_
  rintro e w2 ⟨rfl, rest, S, hQ, hr2, hS, hx⟩
  have hTf := HT.out.frm
  have hlW1 : eb < W.heap.size := HE1.out.lt
  have hlW2 : ob < W.heap.size := HO1.out.lt
  have nS : ∀ y, w.heap.size ≤ y → y < W.heap.size → y ≠ rb → y ≠ cb → y ∉ S := by
    intro y h1 h2 h3 h4 hm
    rcases hx y hm with h | h | h | h <;> omega
  have ho2 := hS.whole HO1.out (nS ob (by have := E3.out; omega) hlW2 (by omega) (by have := E2.out; have := E3.out; omega))
  have he2 := hS.whole HE1.out (nS eb (by have := E1.out; omega) hlW1 (by omega) (by have := E2.out; have := E1.out; omega))
  have hcge : w.heap.size ≤ cb := HT.out.hc
  have hege : w.heap.size ≤ eb := by have := E1.out; omega
  have d1 : eb ≠ ob := by have := E1.out; have := E3.out; omega
  have d2 : eb ≠ cb := by have := E1.out; have := E2.out; omega
  clear nS hTf hlW1 hlW2 hx hS
  have k2 := ho2.cell 0
  have k3 := he2.cell 0
  have k4 := he2.free 0
  simp at k2 k3
  obtain ⟨ra, rcap, _, hcw, _⟩ := id hr2
  obtain ⟨c, hc⟩ : ∃ c : Int, c = if rest = [] then 0 else 5 := ⟨_, rfl⟩
  have EN := Lib.hid (end_any hr2 c hc)
  have HQ : Hid (∃ rest, Q w2 rest ∧ c = if rest = [] then 0 else 5) := ⟨rest, hQ, hc⟩
  have HE2 := Lib.hid (he2.put 0 (.int .i64 c)); clear he2
  have HO2 := Lib.hid (ho2.other (p := ⟨eb, 0, none⟩) (Ne.symm d1) (.int .i64 c)); clear ho2
  have HC2 := Lib.hid (hcw.other (p := ⟨eb, 0, none⟩) (Ne.symm d2) (.int .i64 c)); clear hcw
  clear hc hQ hr2
  go_wp2_with (go_at_call 108; refine EN.out.mono ?_; rintro e w' ⟨rfl, rfl⟩)
  refine leaves_cons (f := 107) (args := #[.pointer (some ⟨ob, 0, none⟩), .pointer (some ⟨eb, 0, none⟩)]) (by simp) (by simp [go_sem]) ?_
  refine (d_idle ob cb eb 0 _ HO2.out HC2.out).mono ?_
  rintro e u' w'' ⟨rfl, rfl, rfl⟩
  have r0 := (HE2.out.other (p := ⟨cb, 0, none⟩) d2 (.bool true)).cell 0
  simp at r0
  have FIN : ReadRet8 w (fun w2 c => ∃ rest, Q w2 rest ∧ c = if rest = [] then 0 else 5) (.returned (.int .i64 c)) ((w2.setCell ⟨eb, 0, none⟩ (.int .i64 c)).setCell ⟨cb, 0, none⟩ (.bool true)) :=
    ⟨w2, c, [eb, cb], rfl, HQ.out, ((Frm.refl _ _).setCell (.inl (by simp)) _).setCell (.inl (by simp)) _, by have e1 := E1.out; have e2 := E2.out; simp; omega⟩
  simp [Leaves, settle, results, Tryz.results72, go_sem, r0]
  exact FIN

set_option maxHeartbeats 1000000 in
theorem read_throw8 (G : FuncId) (cp : Array Value) (a : Option Addr) (n cap : Nat) (l : List Nat) (w : World) (Q : World → Prop) (P : Int → Prop) (hl : Bytes w a l) (hn : n = l.length) (hnil : a = none → cap = 0) (hfit : n ≤ 140737488355328)
    (hG : ∀ args w, (callFunc G args).run Tryz.prog w = .ok (.enter G args) w)
    (hby : ∀ w1 rb cb db, Told w w1 rb cb db l → Calls Tryz.prog G (#[.pointer (some ⟨rb, 0, none⟩)] ++ cp) w1 (fun e w2 => ∃ c, P c ∧ ByThrow w w1 rb cb c Q e w2)) :
    Calls Tryz.prog 72 #[.slice a n cap, .func (.func G) #[] cp] w (ReadRet8 w fun w2 c' => Q w2 ∧ P c') := by
  have hmf : ∀ (fn : Fn) (first cap : Array Value) (w : World), (Instr.makeFunc fn first cap).run Tryz.prog w = .ok (.func fn first cap) w := fun _ _ _ _ => rfl
  have hq : ∀ (w : World), (binOp .eql 147 (.func (.func G) #[] cp) .nilFunc).run Tryz.prog w = .ok (.bool false) w := by
    intro w; kernel_rfl
  have HB := Lib.hid hby; clear hby
  have HL := Lib.hid hl; clear hl
  have HN := Lib.hid hn; clear hn
  go_enter_defers Tryz.func72, Tryz.ntmps72
  go_wp2
  clear hq
  obtain ⟨w0, hw0⟩ : ∃ w0, w0 = ((w.alloc (Obj.cells #[Value.int IntKind.i64 0] 43)).alloc (Obj.cells #[Value.bool false, Value.int IntKind.i64 0] 184)).alloc (Obj.cells #[Value.pointer (some ⟨w.heap.size + 1, 0, none⟩)] 182) := ⟨_, rfl⟩
  rw [← hw0]
  obtain ⟨eb, heb⟩ : ∃ eb, eb = w.heap.size := ⟨_, rfl⟩
  obtain ⟨cb, hcb⟩ : ∃ cb, cb = w.heap.size + 1 := ⟨_, rfl⟩
  obtain ⟨ob, hob⟩ : ∃ ob, ob = w.heap.size + 1 + 1 := ⟨_, rfl⟩
  have he0 : Whole w0 eb 43 #[.int .i64 0] := by rw [hw0, heb]; exact ((Whole.made w _ _).alloc _).alloc _
  have hc0 : Whole w0 cb 184 #[.bool false, .int .i64 0] := by rw [hw0, hcb]; exact (Whole.made' _ _ (by simp)).alloc _
  have ho0 : Whole w0 ob 182 #[.pointer (some ⟨cb, 0, none⟩)] := by rw [hw0, hob, hcb]; exact Whole.made' _ _ (by simp)
  have hf0 : Frm [] w w0 := by rw [hw0]; exact (((Frm.refl _ _).alloc _).alloc _).alloc _
  rw [← hob, ← hcb, ← heb]
  have hsz : w0.heap.size = w.heap.size + 3 := by rw [hw0]; simp
  clear hw0
  have k0 := ho0.cell 0
  simp at k0
  have hoblt := ho0.lt
  have HE := Lib.hid he0; clear he0
  have HC := Lib.hid hc0; clear hc0
  have HO := Lib.hid ho0; clear ho0
  have HF := Lib.hid hf0; clear hf0
  have E1 := Lib.hid heb; clear heb
  have E2 := Lib.hid hcb; clear hcb
  have E3 := Lib.hid hob; clear hob
  have E4 := Lib.hid hsz; clear hsz
  go_region_held3 (fun w' => w'.cell? ⟨ob, 0, none⟩ = some (.pointer (some ⟨cb, 0, none⟩))) (first | go_keep | (rw [hfrm.cell (by simpa using hoblt) (by simp)]; assumption)) ((go_at_call 88; refine (clone_any a n cap l _ (HF.out.drew.bytes HL.out (by simp)) HN.out hnil hfit).mono ?_; rintro e w1 ⟨a', cap', rfl, hown, hfrm⟩))
  obtain ⟨db, htold⟩ := told_mk HL.out.1 HC.out HO.out HF.out E2.out E3.out hown hfrm
  have ho1 := (hfrm.undrew.whole HO.out (by simp)).alloc (.cells #[.slice a' l.length cap', .pointer (some ⟨cb, 0, none⟩)] 186)
  have he1 := (hfrm.undrew.whole HE.out (by simp)).alloc (.cells #[.slice a' l.length cap', .pointer (some ⟨cb, 0, none⟩)] 186)
  have hne1 : ob < w1.heap.size := Nat.lt_of_lt_of_le HO.out.lt hfrm.undrew.size
  have hne2 : eb < w1.heap.size := Nat.lt_of_lt_of_le HE.out.lt hfrm.undrew.size
  clear hown hfrm
  obtain ⟨W, hW⟩ : ∃ W, W = w1.alloc (Obj.cells #[Value.slice a' l.length cap', Value.pointer (some ⟨cb, 0, none⟩)] 186) := ⟨_, rfl⟩
  rw [← hW] at htold ho1 he1 ⊢
  obtain ⟨rb, hrb⟩ : ∃ rb, rb = w1.heap.size := ⟨_, rfl⟩
  rw [← hrb] at htold hne1 hne2 ⊢
  clear hW hrb
  have HT := Lib.hid htold; clear htold
  have HO1 := Lib.hid ho1; clear ho1
  have HE1 := Lib.hid he1; clear he1
  clear k0 hoblt
  go_wp2_with fail
  refine (HB.out _ _ _ _ HT.out).mono ?_
  rintro e w2 ⟨c, hPc, rfl, S, hQ, hcw, hS, hx⟩
  have hTf := HT.out.frm
  have hlW1 : eb < W.heap.size := HE1.out.lt
  have hlW2 : ob < W.heap.size := HO1.out.lt
  have nS : ∀ y, w.heap.size ≤ y → y < W.heap.size → y ≠ rb → y ≠ cb → y ∉ S := by
    intro y h1 h2 h3 h4 hm
    rcases hx y hm with h | h | h | h <;> omega
  have ho2 := hS.whole HO1.out (nS ob (by have := E3.out; omega) hlW2 (by omega) (by have := E2.out; have := E3.out; omega))
  have he2 := hS.whole HE1.out (nS eb (by have := E1.out; omega) hlW1 (by omega) (by have := E2.out; have := E1.out; omega))
  have hcge : w.heap.size ≤ cb := HT.out.hc
  have hege : w.heap.size ≤ eb := by have := E1.out; omega
  have d1 : eb ≠ ob := by have := E1.out; have := E3.out; omega
  have d2 : eb ≠ cb := by have := E1.out; have := E2.out; omega
  clear nS hTf hlW1 hlW2 hx hS
  refine leaves_cons (f := 107) (args := #[.pointer (some ⟨ob, 0, none⟩), .pointer (some ⟨eb, 0, none⟩)]) (by simp) (by simp [go_sem]) ?_
  refine (d_own ob cb eb c 0 [] _ ho2 hcw he2).mono ?_
  rintro e u' w'' ⟨rfl, rfl, rfl⟩
  have r0 := ((he2.other (p := ⟨cb, 0, none⟩) d2 (.bool true)).put 0 (.int .i64 c)).cell 0
  simp at r0
  have FIN : ReadRet8 w (fun w2 c' => Q w2 ∧ P c') (.returned (.int .i64 c)) ((w2.setCell ⟨cb, 0, none⟩ (.bool true)).setCell ⟨eb, 0, none⟩ (.int .i64 c)) :=
    ⟨w2, c, [eb, cb], rfl, ⟨hQ, hPc⟩, ((Frm.refl _ _).setCell (.inl (by simp)) _).setCell (.inl (by simp)) _, by have e1 := E1.out; have e2 := E2.out; simp; omega⟩
  simp [Leaves, settle, results, Tryz.results72, go_sem, r0]
  exact FIN
end Go.Proofs.YtcbpppdmkhpkkaaGreat
/- What replay's reader does with a record: contract of the closure. -/
namespace Go.Proofs.YtcbpppdmkhpkkaaGreat
open Go.RowKit
set_option maxRecDepth 100000
def preS (r : Option (MS × List Nat)) : Option (MS × List Nat) := match r with
  | some (S', m) => if pOk S' then some (S', m) else none
  | none => none
def preC (S : MS) (r : Option (MC × List Nat)) : Option (MS × List Nat) := match r with
  | some (c, m) => if doE S c = 0 then some (doS S c, m) else none
  | none => none
/-- What a record makes of a state, and what is left of it. -/
def pre1 (S : MS) (b : List Nat) : Option (MS × List Nat) := (pU 1 b).bind fun a => if a.1 = 7 then preS (pS a.2) else preC S (pC a.1 a.2)
theorem pre1_some {S S' : MS} {b m : List Nat} (h : pre1 S b = some (S', m)) : rep1 S b = if m = [] then some S' else none := by
  unfold pre1 at h
  unfold rep1
  obtain ⟨⟨k, l⟩, hk, h⟩ := bind_some' h
  rw [hk]
  simp only [Option.bind_some]
  simp only at h
  by_cases h7 : k = 7
  · rw [if_pos h7] at h ⊢
    cases hp : pS l with
    | none => rw [hp] at h; cases h
    | some r =>
      obtain ⟨T, m'⟩ := r
      rw [hp] at h
      unfold preS at h
      simp only at h
      by_cases ho : pOk T
      · rw [if_pos ho] at h
        simp at h
        obtain ⟨rfl, rfl⟩ := h
        cases m' with
        | nil => show (if pOk T then some T else none) = _; rw [if_pos ho, if_pos rfl]
        | cons x m' => rw [if_neg (by simp)]; rfl
      · rw [if_neg ho] at h; cases h
  · rw [if_neg h7] at h ⊢
    cases hp : pC k l with
    | none => rw [hp] at h; cases h
    | some r =>
      obtain ⟨c, m'⟩ := r
      rw [hp] at h
      unfold preC at h
      simp only at h
      by_cases ho : doE S c = 0
      · rw [if_pos ho] at h
        simp at h
        obtain ⟨rfl, rfl⟩ := h
        cases m' with
        | nil => show (if doE S c = 0 then some (doS S c) else none) = _; rw [if_pos ho, if_pos rfl]
        | cons x m' => rw [if_neg (by simp)]; rfl
      · rw [if_neg ho] at h; cases h
theorem pre1_none {S : MS} {b : List Nat} (h : pre1 S b = none) : rep1 S b = none := by
  unfold pre1 at h
  unfold rep1
  cases hk : pU 1 b with
  | none => rfl
  | some a =>
    obtain ⟨k, l⟩ := a
    rw [hk] at h
    simp only [Option.bind_some] at h ⊢
    by_cases h7 : k = 7
    · rw [if_pos h7] at h ⊢
      cases hp : pS l with
      | none => rfl
      | some r =>
        obtain ⟨T, m'⟩ := r
        rw [hp] at h
        unfold preS at h
        simp only at h
        by_cases ho : pOk T
        · rw [if_pos ho] at h; cases h
        · cases m' with
          | nil => show (if pOk T then some T else none) = _; rw [if_neg ho]
          | cons x m' => rfl
    · rw [if_neg h7] at h ⊢
      cases hp : pC k l with
      | none => rfl
      | some r =>
        obtain ⟨c, m'⟩ := r
        rw [hp] at h
        unfold preC at h
        simp only at h
        by_cases ho : doE S c = 0
        · rw [if_pos ho] at h; cases h
        · cases m' with
          | nil => show (if doE S c = 0 then some (doS S c) else none) = _; rw [if_neg ho]
          | cons x m' => rfl
/-- What the closure leaves. -/
def ByEnd (w : World) (B : Nat) (F : List Nat) (p tp bp rb cb db : Nat) (S : MS) (b : List Nat) (e : Ending) (w' : World) : Prop :=
  (∃ S' m tq bq, pre1 S b = some (S', m) ∧ e = .returned (.tuple #[]) ∧ Ms w' B F p tq bq S' ∧ Rdr w' rb cb db m ∧ Frm [rb, p, tp, bp] w w') ∨
  (pre1 S b = none ∧ ∃ c : Nat, c ≠ 0 ∧ e = .panicked [{ v := .iface 182 (.pointer (some ⟨cb, 0, none⟩)), recovered := false }] ∧ Whole w' cb 184 #[.bool false, .int .i64 (c : Nat)] ∧ Frm [rb, cb, p, tp, bp] w w')

set_option maxHeartbeats 16000000 in
theorem by_any {w : World} {B p tp bp rb cb db x : Nat} {F b : List Nat} {S : MS} (h : Ms w B (rb :: cb :: db :: x :: F) p tp bp S) (hM : MOk S) (hr : Rdr w rb cb db b) (hdb : db < w.heap.size) (hx : Whole w x 123 #[.pointer (some ⟨p, 0, none⟩)])
    (hF : ∀ y ∈ F, y < w.heap.size) (hp : p ∉ rb :: cb :: db :: x :: F) (hB : B ≤ w.heap.size) (hlen : b.length ≤ 4096) :
    Calls Tryz.prog 118 #[.pointer (some ⟨rb, 0, none⟩), .pointer (some ⟨x, 0, none⟩)] w (ByEnd w B (rb :: cb :: db :: x :: F) p tp bp rb cb db S b) := by
  have h8 := hr.h8
  have hlt := hr.lt
  obtain ⟨G, hG⟩ : ∃ G, G = rb :: cb :: db :: x :: F := ⟨_, rfl⟩
  have HGF : Hid (∀ y ∈ G, y < w.heap.size) := Lib.hid (by rw [hG]; intro y hy; simp at hy; rcases hy with rfl | rfl | rfl | rfl | hy; exact hlt.1; exact hlt.2; exact hdb; exact hx.lt; exact hF y hy)
  have HIN : Hid (rb ∈ G ∧ cb ∈ G ∧ db ∈ G ∧ x ∈ G) := Lib.hid (by rw [hG]; simp)
  rw [← hG] at h hp ⊢
  clear hG
  have hxr : x ≠ rb ∧ x ≠ cb := by
    obtain ⟨a, cap, h1, h2, _⟩ := hr
    exact ⟨hx.ne h1 (by decide), hx.ne h2 (by decide)⟩
  have HH := Lib.hid h
  have HM := Lib.hid hM
  have HP := Lib.hid hp
  have HXR := Lib.hid hxr
  have HX := Lib.hid hx
  have H8 := Lib.hid h8
  have HN1 := Lib.hid (tk_u8 hr hdb)
  have HDB := Lib.hid hdb
  have HBW := Lib.hid hB
  have HLEN := Lib.hid hlen
  obtain ⟨Q, hQ⟩ : ∃ Q, Q = ByEnd w B G p tp bp rb cb db S b := ⟨_, rfl⟩
  rw [← hQ]
  have ER : Hid (∀ (z : World) (e : Ending) (w' : World) (c : Nat), c ≠ 0 → Frm [rb, p, tp, bp] w z → pre1 S b = none → Thrown z rb cb c e w' → Q e w') := Lib.hid fun z e w' c hc hz hpn ht => by
    rw [hQ]
    refine .inr ⟨hpn, c, hc, ht.1, ht.2.1, hz.trans ht.2.2 (fun y hy => by simp at hy; simp; omega) (fun y hy => .inl (by simp at hy; simp; omega))⟩
  have HQ := Lib.hid hQ
  clear h hM hr hdb hx hF hp hB hlen h8 hlt hxr hQ
  go_enter Tryz.func118, Tryz.ntmps118
  go_wp2_with fail
  (with_reducible refine HN1.out.mono ?_)
  rintro e w1 (⟨k, l1, hp1, hk, rfl, hr1, hf1⟩ | ⟨hp1, ht⟩)
  case inr =>
    have hb := ER.out _ _ _ 4 (by decide) (Frm.refl _ _) (by unfold pre1; rw [hp1]; rfl) ht
    obtain ⟨rfl, _⟩ := ht
    exact ⟨rfl, hb⟩
  have HF1 : Hid (Frm [rb] w w1) := Lib.hid hf1
  have HP1 := Lib.hid hp1
  have HK : Hid (k < 256) := Lib.hid (by simpa using hk)
  have HR1 := Lib.hid hr1
  have HDB1 := Lib.hid (show db < w1.heap.size from Nat.lt_of_lt_of_le HDB.out hf1.size)
  clear hr1 hf1 hp1 HN1 hk
  have hsz1 := HF1.out.size
  have HG1 : Hid (∀ y ∈ p :: G, y < w1.heap.size) := Lib.hid fun y hy => by
    rcases List.mem_cons.1 hy with rfl | hy
    · have := HH.out.st.lt; omega
    · have := HGF.out y hy; omega
  have HFR : Hid (∀ y, Frm [rb] w1 y → Frm [rb] w y) := Lib.hid fun y hy => HF1.out.trans hy (fun x hx => hx) (fun x hx => .inl hx)
  have HMS : Hid (∀ y, Frm [rb] w1 y → Ms y B G p tp bp S) := Lib.hid fun y hy => HH.out.keep (HFR.out y hy) HP.out (fun z hz => .inl (by simp at hz; subst hz; exact HIN.out.1)) (fun z hz => .inl hz)
  have X0 : ∀ y, Frm [rb] w1 y → y.cell? ⟨x, 0, none⟩ = some (.pointer (some ⟨p, 0, none⟩)) := fun y hy => ((HFR.out y hy).whole HX.out (by simpa using HXR.out.1)).cell 0
  have s0 : Frm [rb] w1 w1.drew := (Frm.refl _ _).drew
  clear hsz1
  by_cases h7 : k = 7
  · have d7 : ((k : Int) == 7) = true := by rw [h7]; rfl
    have NOK : Hid ((∀ S' m, pS l1 = some (S', m) → ¬ pOk S') → pre1 S b = none) := Lib.hid fun hno => by
      unfold pre1
      rw [HP1.out]
      simp only [Option.bind_some]
      rw [if_pos h7]
      cases hps : pS l1 with
      | none => rfl
      | some r => show (if pOk r.1 then some (r.1, r.2) else none) = none; rw [if_neg (hno r.1 r.2 hps)]
    have OK : Hid (∀ S' m, pS l1 = some (S', m) → pOk S' → pre1 S b = some (S', m)) := Lib.hid fun S' m hps hok => by
      unfold pre1
      rw [HP1.out]
      simp only [Option.bind_some]
      rw [if_pos h7, hps]
      show (if pOk S' then some (S', m) else none) = _
      rw [if_pos hok]
    have HTS := Lib.hid (takeState_any (p :: G) (HR1.out.keep (Frm.refl [] w1).drew (by simp) (by simp) (by simp)) (show db < w1.drew.heap.size from HDB1.out) (fun y hy => show y < w1.drew.heap.size from HG1.out y hy))
    have P0 : ∀ y, Frm [rb] w1 y → y.cell? ⟨p, 0, none⟩ = some (.int .u64 (S.now : Nat)) := fun y hy => (HMS.out y hy).st.cell 0
    have P1 : ∀ y, Frm [rb] w1 y → y.cell? ⟨p, 1, none⟩ = some (.pointer (some ⟨tp, 0, none⟩)) := fun y hy => (HMS.out y hy).st.cell 1
    have P2 : ∀ y, Frm [rb] w1 y → y.cell? ⟨p, 2, none⟩ = some (.pointer (some ⟨bp, 0, none⟩)) := fun y hy => (HMS.out y hy).st.cell 2
    have K0 : ∀ y, Frm [rb] w1 y → y.frozen? ⟨p, 0, none⟩ = false := fun y hy => (HMS.out y hy).st.free 0
    have K1 : ∀ y, Frm [rb] w1 y → y.frozen? ⟨p, 1, none⟩ = false := fun y hy => (HMS.out y hy).st.free 1
    have K2 : ∀ y, Frm [rb] w1 y → y.frozen? ⟨p, 2, none⟩ = false := fun y hy => (HMS.out y hy).st.free 2
    go_wp2
    go_region_law (first
      | (go_simp; go_at_call 120; (with_reducible refine HTS.out.mono ?_); rintro e w2 (⟨S', m, tq, bq, hps, hok, rfl, hkd, hr2, hf2⟩ | ⟨hno, c, hc, ht⟩); rotate_left 1; (have hb := ER.out w1.drew _ _ c hc ((HFR.out _ s0).weak (fun y hy => .inl (by simp at hy; simp [hy]))) (NOK.out hno) ht; obtain ⟨rfl, _⟩ := ht; exact ⟨rfl, hb⟩); have s2 : Frm [rb] w1 w2 := s0.trans hf2 (fun x hx => hx) (fun x hx => .inl hx)))
    all_goals
      obtain ⟨wz, hz⟩ : ∃ wz, wz = ((w2.setCell ⟨p, 0, none⟩ (.int .u64 (S'.now : Nat))).setCell ⟨p, 1, none⟩ (.pointer (some ⟨tq, 0, none⟩))).setCell ⟨p, 2, none⟩ (.pointer (some ⟨bq, 0, none⟩)) := ⟨_, rfl⟩
      have hWz : Whole wz p 85 #[.int .u64 (S'.now : Nat), .pointer (some ⟨tq, 0, none⟩), .pointer (some ⟨bq, 0, none⟩)] := by rw [hz]; exact (((HMS.out w2 s2).st.put 0 _).put 1 _).put 2 _
      have hfz : Frm [p] w2 wz := by rw [hz]; exact (((Frm.refl _ _).setCell (.inl (by simp)) _).setCell (.inl (by simp)) _).setCell (.inl (by simp)) _
      have hpG : p ≠ rb ∧ p ≠ cb ∧ p ≠ db := ⟨fun h => HP.out (h ▸ HIN.out.1), fun h => HP.out (h ▸ HIN.out.2.1), fun h => HP.out (h ▸ HIN.out.2.2.1)⟩
      have HEND : Hid (Q (.returned (.tuple #[])) wz) := Lib.hid (by
        rw [HQ.out]
        refine .inl ⟨S', m, tq, bq, OK.out _ _ hps hok, rfl, ⟨hWz, (hkd.keep hfz (fun y hy => .inl (by simp at hy; simp [hy])) (fun y hy => .inl hy)).low (Nat.le_trans HBW.out HF1.out.size)⟩, hr2.keep hfz (by simp; omega) (by simp; omega) (by simp; omega), ((HFR.out _ s2).weak (U := [rb, p, tp, bp]) (fun y hy => .inl (by simp at hy; simp [hy]))).trans hfz (fun y hy => hy) (fun y hy => .inl (by simp at hy; simp [hy]))⟩)
      rw [← hz]
      clear hWz hfz hz P0 P1 P2 K0 K1 K2 X0 hkd hr2 hf2
      go_wp2
      go_end0
      exact HEND.out
  · have d7 : ((k : Int) == 7) = false := by rw [beq_eq_false_iff_ne]; omega
    have PC : Hid (pre1 S b = preC S (pC k l1)) := Lib.hid (by
      unfold pre1
      rw [HP1.out]
      simp only [Option.bind_some]
      rw [if_neg h7])
    have HL1 : Hid (l1.length ≤ 4096) := Lib.hid (by have h1 := (pU_left HP1.out).1; have h2 := HLEN.out; rw [h1, List.length_drop]; omega)
    have HTC := Lib.hid (takeCommand_any k (HR1.out.keep (Frm.refl [] w1).drew (by simp) (by simp) (by simp)) (show db < w1.drew.heap.size from HDB1.out))
    go_wp2
    go_region_law (first
      | (go_simp; go_at_call 121; (with_reducible refine HTC.out.mono ?_); rintro e w2 (⟨c, m, a, cap, hpc, rfl, hb, hnil, hnew, hr2, hf2⟩ | ⟨hpc, ht⟩); rotate_left 1; (have hb := ER.out w1.drew _ _ 4 (by decide) ((HFR.out _ s0).weak (fun y hy => .inl (by simp at hy; simp [hy]))) (by rw [PC.out, hpc]; rfl) ht; obtain ⟨rfl, _⟩ := ht; exact ⟨rfl, hb⟩); have s2 : Frm [rb] w1 w2 := s0.trans hf2 (fun x hx => hx) (fun x hx => .inl hx); have HC := Lib.hid (pC_fit hpc HR1.out.h8 HK.out HL1.out); have HDO := Lib.hid (mdo_any c a cap (HMS.out w2 s2) HM.out HC.out.1 (fun y hy => Nat.lt_of_lt_of_le (HG1.out y (by simp [hy])) s2.size) HP.out hb hnil))
      | (go_simp; go_at_call 30; (refine HDO.out.mono ?_); rintro e w3 ⟨ga, gc, rfl, hga, hgn, hms, hf3⟩))
    all_goals
      have hG3 : Frm [rb, p, tp, bp] w w3 := ((HFR.out _ s2).weak (U := [rb, p, tp, bp]) (fun y hy => .inl (by simp at hy; simp [hy]))).trans hf3 (fun y hy => hy) (fun y hy => .inl (by simp at hy; simp; omega))
      have hM2 := HMS.out w2 s2
      have hpG : p ≠ rb ∧ p ≠ cb ∧ p ≠ db := ⟨fun h => HP.out (h ▸ HIN.out.1), fun h => HP.out (h ▸ HIN.out.2.1), fun h => HP.out (h ▸ HIN.out.2.2.1)⟩
      have htG : ∀ y ∈ p :: G, y ≠ tp ∧ y ≠ bp := fun y hy => ⟨fun h => hM2.d.tout.2 (h ▸ hy), fun h => hM2.d.out (h ▸ hy)⟩
      have hr3 : Rdr w3 rb cb db m := hr2.keep hf3 (by have := htG rb (by simp [HIN.out.1]); simp; omega) (by have := htG cb (by simp [HIN.out.2.1]); simp; omega) (by have := htG db (by simp [HIN.out.2.2.1]); simp; omega)
      have HR3 := Lib.hid hr3
      have HG3 := Lib.hid hG3
      have HMS3 := Lib.hid hms
      have HPC := Lib.hid hpc
      clear hG3 hM2 hpG htG hr3 hms hga hgn hf3 hr2 hf2 hb hnil hnew X0
      obtain ⟨ec, hec⟩ : ∃ ec, doE S c = ec := ⟨_, rfl⟩
      rw [hec]
      go_wp2_with fail
      by_cases h0 : ec = 0
      · subst h0
        have HEND : Hid (Q (.returned (.tuple #[])) w3) := Lib.hid (by
          rw [HQ.out]
          refine .inl ⟨doS S c, m, tp, bp, ?_, rfl, HMS3.out, HR3.out, HG3.out⟩
          rw [PC.out, HPC.out]
          show (if doE S c = 0 then some (doS S c, m) else none) = _
          rw [if_pos hec])
        refine (fail0_any (rb := rb)).mono ?_
        rintro e w4 ⟨rfl, rfl⟩
        go_wp2
        go_end0
        exact HEND.out
      · refine (fail1_any ec HR3.out h0).mono ?_
        rintro e w4 ht
        have hb := ER.out _ _ _ ec h0 HG3.out (by
          rw [PC.out, HPC.out]
          show (if doE S c = 0 then some (doS S c, m) else none) = _
          rw [if_neg (by rw [hec]; exact h0)]) ht
        obtain ⟨rfl, _⟩ := ht
        exact ⟨rfl, hb⟩
end Go.Proofs.YtcbpppdmkhpkkaaGreat
/- Contract of replay. -/
namespace Go.Proofs.YtcbpppdmkhpkkaaGreat
open Go.RowKit
set_option maxRecDepth 100000
theorem enters_replay (args : Array Value) (w : World) : (callFunc 118 args).run Tryz.prog w = .ok (.enter 118 args) w := by
  kernel_rfl
set_option maxHeartbeats 8000000 in
theorem rep_ok : RepOk := by
  intro w B p tp bp n cap F S a b h hM hF hp hB hb hn hnil hlen
  obtain ⟨w0, hw0⟩ : ∃ w0, w0 = w.alloc (.cells #[.pointer (some ⟨p, 0, none⟩)] 123) := ⟨_, rfl⟩
  obtain ⟨x, hx⟩ : ∃ x, x = w.heap.size := ⟨_, rfl⟩
  have hW : Whole w0 x 123 #[.pointer (some ⟨p, 0, none⟩)] := by rw [hw0, hx]; exact Whole.made _ _ _
  have hf0 : Frm [] w w0 := by rw [hw0]; exact (Frm.refl _ _).alloc _
  have hpl := h.st.lt
  have hbl : n = b.length := hn
  -- where by is called
  have BY : Hid (∀ w1 rb cb db, Told w0 w1 rb cb db b → Calls Tryz.prog 118 (#[.pointer (some ⟨rb, 0, none⟩)] ++ #[.pointer (some ⟨x, 0, none⟩)]) w1 (ByEnd w1 B (rb :: cb :: db :: x :: w0.heap.size :: (w0.heap.size + 1) :: F) p tp bp rb cb db S b)) := Lib.hid (by
    intro w1 rb cb db ht
    have hs0 := hf0.size
    have hs1 := ht.frm.size
    have h2 := ht.two
    have h3 := ht.hr
    have h4 := ht.hc
    have h5 := ht.hd
    have hnew : ∀ y ∈ rb :: cb :: db :: x :: w0.heap.size :: (w0.heap.size + 1) :: F, y ∈ F ∨ w.heap.size ≤ y := by
      intro y hy
      simp at hy
      rcases hy with rfl | rfl | rfl | rfl | rfl | rfl | hy
      all_goals first | exact .inl hy | (right; omega)
    refine by_any (h.keep (hf0.trans ht.frm (U := []) (by simp) (by simp)) hp (by simp) hnew) hM ht.rdr ht.dlt (ht.frm.whole hW (by simp)) ?_ ?_ (by omega) hlen
    · intro y hy
      simp at hy
      rcases hy with rfl | rfl | hy
      · omega
      · omega
      · have := hF y hy; omega
    · intro hm
      rcases hnew p hm with h1 | h1
      · exact hp h1
      · omega)
  have HB0 := Lib.hid (hf0.bytes' hb (by simp))
  have HH := Lib.hid h
  have HF0 := Lib.hid hf0
  have HW := Lib.hid hw0
  have HX := Lib.hid hx
  have HPL := Lib.hid hpl
  have HP := Lib.hid hp
  have HFF := Lib.hid hF
  have hfit : n ≤ 140737488355328 := by omega
  obtain ⟨Q, hQ⟩ : ∃ Q, Q = RepEnd w B F p tp bp S b := ⟨_, rfl⟩
  rw [← hQ]
  have HQ := Lib.hid hQ
  have hmf : ∀ (fn : Fn) (first cap : Array Value) (w : World), (Instr.makeFunc fn first cap).run Tryz.prog w = .ok (.func fn first cap) w := fun _ _ _ _ => rfl
  -- what Read answers
  have RD : Hid (Calls Tryz.prog 72 #[.slice a n cap, .func (.func 118) #[] #[.pointer (some ⟨x, 0, none⟩)]] w0 (fun e w' => ∃ c, e = .returned (.int .i64 c) ∧ Q (.returned (.int .i64 c)) w')) := Lib.hid (by
    have small : ∀ y ∈ [p, tp, bp], y < w0.heap.size := by
      intro y hy
      have h1 := h.d.tlt
      have h2 := h.d.blt
      have h3 := hf0.size
      simp at hy
      rcases hy with rfl | rfl | rfl <;> omega
    cases hpre : pre1 S b with
    | some r =>
      obtain ⟨S', m⟩ := r
      refine (read_ret8 118 #[.pointer (some ⟨x, 0, none⟩)] a n cap b w0 (fun w2 rest => rest = m ∧ ∃ tq bq, Ms w2 B (w0.heap.size :: (w0.heap.size + 1) :: F) p tq bq S' ∧ Frm [p, tp, bp] w0 w2) HB0.out hn hnil hfit enters_replay (fun w1 rb cb db ht => (BY.out w1 rb cb db ht).mono ?_)).mono ?_
      · rintro e w2 (⟨T, m2, tq, bq, hp1, rfl, hms, hr, hf⟩ | ⟨hno, _⟩)
        · rw [hpre] at hp1
          cases hp1
          refine ⟨rfl, m, [rb, p, tp, bp], ⟨rfl, tq, bq, hms.keep (G := []) (Frm.refl _ _) (by
            intro hm
            have h0 := hf0.size
            have h1 := ht.hr
            have h2 := ht.hc
            have h3 := ht.hd
            simp at hm
            rcases hm with rfl | rfl | rfl | rfl | rfl | rfl | hm
            all_goals first | exact hp hm | omega) (by simp) (fun y hy => .inl (List.mem_cons_of_mem _ (List.mem_cons_of_mem _ (List.mem_cons_of_mem _ (List.mem_cons_of_mem _ hy))))), ?_⟩, hr, hf, fun y hy => ?_⟩
          · refine ht.frm.trans hf (by simp) (fun y hy => ?_)
            simp at hy
            rcases hy with rfl | hy
            · exact .inr ht.hr
            · exact .inl (by simp [hy])
          · rcases List.mem_cons.1 hy with rfl | hy
            · exact .inl rfl
            · exact .inr (.inr (.inl (small y hy)))
        · rw [hpre] at hno; cases hno
      · rintro e w' ⟨w2, c, T, rfl, ⟨rest, ⟨rfl, tq, bq, hms, hf2⟩, hc⟩, hf3, hT⟩
        refine ⟨c, rfl, ?_⟩
        have hall : Frm [p, tp, bp] w w' := (hf0.trans hf2 (U := [p, tp, bp]) (by simp) (fun y hy => .inl hy)).trans hf3 (fun y hy => hy) (fun y hy => .inr (by have := (hT y hy).1; have := hf0.size; omega))
        rw [hQ]
        by_cases hr : rest = []
        · rw [if_pos hr] at hc
          subst hc
          refine .inl ⟨S', tq, bq, by rw [pre1_some hpre, if_pos hr], rfl, hms.keep hf3 (by
            intro hm
            have h0 := hf0.size
            simp at hm
            rcases hm with rfl | rfl | hm
            · omega
            · omega
            · exact hp hm) (fun y hy => .inl (by have := hT y hy; simp; omega)) (fun y hy => .inl (by simp [hy])), hall⟩
        · rw [if_neg hr] at hc
          subst hc
          exact .inr ⟨by rw [pre1_some hpre, if_neg hr], 5, by decide, rfl, hall⟩
    | none =>
      refine (read_throw8 118 #[.pointer (some ⟨x, 0, none⟩)] a n cap b w0 (fun w2 => Frm [p, tp, bp] w0 w2) (fun c => ∃ k : Nat, k ≠ 0 ∧ c = (k : Nat)) HB0.out hn hnil hfit enters_replay (fun w1 rb cb db ht => (BY.out w1 rb cb db ht).mono ?_)).mono ?_
      · rintro e w2 (⟨T, m2, tq, bq, hp1, _⟩ | ⟨_, c, hc, rfl, hcw, hf⟩)
        · rw [hpre] at hp1; cases hp1
        · refine ⟨(c : Nat), ⟨c, hc, rfl⟩, rfl, [rb, cb, p, tp, bp], ?_, hcw, hf, fun y hy => ?_⟩
          · refine ht.frm.trans hf (by simp) (fun y hy => ?_)
            simp at hy
            rcases hy with rfl | rfl | hy
            · exact .inr ht.hr
            · exact .inr ht.hc
            · exact .inl (by simp [hy])
          · rcases List.mem_cons.1 hy with rfl | hy
            · exact .inl rfl
            · rcases List.mem_cons.1 hy with rfl | hy
              · exact .inr (.inl rfl)
              · exact .inr (.inr (.inl (small y hy)))
      · rintro e w' ⟨w2, c, T, rfl, ⟨hf2, k, hk, rfl⟩, hf3, hT⟩
        refine ⟨(k : Nat), rfl, ?_⟩
        have hall : Frm [p, tp, bp] w w' := (hf0.trans hf2 (U := [p, tp, bp]) (by simp) (fun y hy => .inl hy)).trans hf3 (fun y hy => hy) (fun y hy => .inr (by have := (hT y hy).1; have := hf0.size; omega))
        rw [hQ]
        exact .inr ⟨pre1_none hpre, k, hk, rfl, hall⟩)
  clear h hM hF hp hB hb hn hnil hlen hW hf0 hpl hbl hw0 hx hQ
  go_enter Tryz.func81, Tryz.ntmps81
  go_wp2_with fail
  rw [← HW.out, ← HX.out]
  (with_reducible refine RD.out.mono ?_)
  rintro e w1 ⟨c, rfl, hq⟩
  have HE := Lib.hid hq
  clear hq
  go_wp2
  exact HE.out
end Go.Proofs.YtcbpppdmkhpkkaaGreat
