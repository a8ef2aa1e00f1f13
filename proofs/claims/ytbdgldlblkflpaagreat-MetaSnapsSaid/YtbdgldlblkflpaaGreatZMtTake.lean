/- What the reader takes, as the parser says; contract of takeSessions. -/
import Derived.Test.YtbdgldlblkflpaaGreatMF
import Derived.Test.YtbdgldlblkflpaaGreatMA
import Derived.Test.YtbdgldlblkflpaaGreatME
namespace Go.Proofs.YtbdgldlblkflpaaGreat
open Go.RowKit
/-- A thing is taken as the parser p says, or it is thrown. -/
def TkN (w : World) (rb cb db : Nat) (k : Nat) (ik : IntKind) (l : List Nat) (e : Ending) (w' : World) : Prop :=
  (∃ (n : Nat) (m : List Nat), pU k l = some (n, m) ∧ n < 256 ^ k ∧ e = .returned (.int ik (n : Nat)) ∧ Rdr w' rb cb db m ∧ Frm [rb] w w') ∨ (pU k l = none ∧ Thrown w rb cb 4 e w')
theorem tk_u8 {w : World} {rb cb db : Nat} {l : List Nat} (h : Rdr w rb cb db l) (hdb : db < w.heap.size) : Calls Tryz.prog 98 #[.pointer (some ⟨rb, 0, none⟩)] w (TkN w rb cb db 1 .u8 l) := by
  by_cases hl : l.length < 1
  · exact (ru8_short h hl).mono fun e w' h => .inr ⟨by unfold pU; rw [if_pos hl], h⟩
  · exact (ru8_ok h (by omega) hdb).mono fun e w' h' => .inl ⟨_, _, by unfold pU; rw [if_neg hl], val_take_lt h 1 (by omega), h'.1, h'.2.1, h'.2.2⟩
theorem tk_u16 {w : World} {rb cb db : Nat} {l : List Nat} (h : Rdr w rb cb db l) (hdb : db < w.heap.size) : Calls Tryz.prog 173 #[.pointer (some ⟨rb, 0, none⟩)] w (TkN w rb cb db 2 .u16 l) := by
  by_cases hl : l.length < 2
  · exact (ru16_short h hl).mono fun e w' h => .inr ⟨by unfold pU; rw [if_pos hl], h⟩
  · exact (ru16_ok h (by omega) hdb).mono fun e w' h' => .inl ⟨_, _, by unfold pU; rw [if_neg hl], val_take_lt h 2 (by omega), h'.1, h'.2.1, h'.2.2⟩
theorem tk_u64 {w : World} {rb cb db : Nat} {l : List Nat} (h : Rdr w rb cb db l) (hdb : db < w.heap.size) : Calls Tryz.prog 140 #[.pointer (some ⟨rb, 0, none⟩)] w (TkN w rb cb db 8 .u64 l) := by
  by_cases hl : l.length < 8
  · exact (ru64_short h hl).mono fun e w' h => .inr ⟨by unfold pU; rw [if_pos hl], h⟩
  · exact (ru64_ok h (by omega) hdb).mono fun e w' h' => .inl ⟨_, _, by unfold pU; rw [if_neg hl], val_take_lt h 8 (by omega), h'.1, h'.2.1, h'.2.2⟩
/-- Where a number's bytes are too few, so they are for what is longer. -/
theorem pU_left {k n : Nat} {l m : List Nat} (h : pU k l = some (n, m)) : m = l.drop k ∧ k ≤ l.length := by
  unfold pU at h
  split at h
  · cases h
  · simp at h
    exact ⟨h.2.symm, by omega⟩
theorem Thrown.late {w0 w w' : World} {rb cb : Nat} {e : Ending} {c : Int} (h : Thrown w rb cb c e w') (hf : Frm [rb] w0 w) : Thrown w0 rb cb c e w' := h.early hf

/-- So many of the rest are sessions: what is read, what is there still. -/
def TsRel (w : World) (rb cb db n : Nat) (l0 : List Nat) (s3 s6 : Value) (wr : World) : Prop :=
  ∃ (k : Nat) (a : Option Addr) (c an : Nat) (X : List Sn) (l : List Nat), k ≤ n ∧ s6 = .int .u16 (k : Nat) ∧ s3 = .slice a an c ∧ Hid (an = k) ∧ Hid (X.length = k) ∧ Hid (SOwn wr w.heap.size 118 [rb, cb, db] a c X) ∧ Hid (Rdr wr rb cb db l) ∧ Hid (Frm [rb] w wr) ∧ Hid (pXs n l0 = (pXs (n - k) l).bind fun b => some (X ++ b.1, b.2))
def TkX (w : World) (rb cb db : Nat) (l : List Nat) (e : Ending) (w' : World) : Prop :=
  (∃ X m a c, pCX l = some (X, m) ∧ X.length < 65536 ∧ e = .returned (.slice a X.length c) ∧ SOwn w' w.heap.size 118 [rb, cb, db] a c X ∧ Rdr w' rb cb db m ∧ Frm [rb] w w') ∨ (pCX l = none ∧ Thrown w rb cb 4 e w')
theorem pXs_cut {n : Nat} {l0 l : List Nat} {k : Nat} {X : List Sn} (h : pXs n l0 = (pXs (n - k) l).bind fun b => some (X ++ b.1, b.2)) (hk : k < n) (hn : pX l = none) : pXs n l0 = none := by
  rw [h, show n - k = (n - (k + 1)) + 1 by omega]
  unfold pXs
  rw [hn]
  rfl
theorem pXs_step {n : Nat} {l0 l m : List Nat} {k : Nat} {X : List Sn} {x : Sn} (h : pXs n l0 = (pXs (n - k) l).bind fun b => some (X ++ b.1, b.2)) (hk : k < n) (hn : pX l = some (x, m)) : pXs n l0 = (pXs (n - (k + 1)) m).bind fun b => some ((X ++ [x]) ++ b.1, b.2) := by
  rw [h, show n - k = (n - (k + 1)) + 1 by omega]
  conv => lhs; unfold pXs
  rw [hn]
  simp only [Option.bind_some]
  cases pXs (n - (k + 1)) m <;> simp
theorem Frm.oldRdr {w w' : World} {rb cb db : Nat} {l : List Nat} {S : List Nat} (h : Rdr w rb cb db l) (hf : Frm S w w') (hS : ∀ x ∈ S, x ≠ rb ∧ x ≠ cb ∧ x ≠ db) : Rdr w' rb cb db l :=
  h.keep hf (fun hm => (hS _ hm).1 rfl) (fun hm => (hS _ hm).2.1 rfl) (fun hm => (hS _ hm).2.2 rfl)

set_option maxRecDepth 100000 in
set_option maxHeartbeats 4000000 in
theorem takeSessions_any {w : World} {rb cb db : Nat} {l : List Nat} (h : Rdr w rb cb db l) (hdb : db < w.heap.size) :
    Calls Tryz.prog 141 #[.pointer (some ⟨rb, 0, none⟩)] w (TkX w rb cb db l) := by
  obtain ⟨i0, hi0, hz0, hz1, hz2⟩ := info_parts infoS1
  have HI := Lib.hid hi0; clear hi0
  have HZ0 := Lib.hid hz0; clear hz0
  have HZ1 := Lib.hid hz1; clear hz1
  have HZ2 := Lib.hid hz2; clear hz2
  have HN := Lib.hid (tk_u16 h hdb)
  have hlt := h.lt
  have HDB : Hid (∀ x ∈ [rb, cb, db], x < w.heap.size) := Lib.hid (by intro x hx; simp at hx; rcases hx with rfl | rfl | rfl; exact hlt.1; exact hlt.2; exact hdb)
  obtain ⟨Q, hQ⟩ : ∃ Q, Q = TkX w rb cb db l := ⟨_, rfl⟩
  rw [← hQ]
  have HQ := Lib.hid hQ
  clear h hdb hlt hQ
  go_enter Tryz.func141, Tryz.ntmps141
  go_wp2_with fail
  (with_reducible refine HN.out.mono ?_)
  rintro e w1 (⟨n, m1, hp, hn16, rfl, hr, hf⟩ | ⟨hp, rfl, h1, h2⟩)
  case inr => exact ⟨rfl, by rw [HQ.out]; exact .inr ⟨by unfold pCX; rw [hp]; rfl, rfl, h1, h2⟩⟩
  have hn16' : n < 65536 := by simpa using hn16
  have HP := Lib.hid hp
  have HR0 : Hid (TsRel w rb cb db n m1 (.slice none 0 0) (.int .u16 (0 : Nat)) w1) := Lib.hid ⟨0, none, 0, 0, [], m1, Nat.zero_le _, rfl, rfl, Lib.hid rfl, Lib.hid rfl, Lib.hid (SOwn.nil _ _ _ _), Lib.hid hr, Lib.hid hf, Lib.hid (by cases pXs n m1 <;> simp)⟩
  clear hp hr hf HN hn16
  go_wp2
  go_loopw [3, 6] (fun s3 s6 wr => TsRel w rb cb db n m1 s3 s6 wr) (fun _ s6 _ => n - (intOf s6).toNat)
  case atStart => exact HR0.out
  case round =>
    clear HR0
    obtain ⟨k, a, c, an, X, lr, hk, rfl, rfl, HAN, HXL, HO, HRD, HF, HPX⟩ := hrel
    by_cases hlt : k < n
    · have hsz := HF.out.size
      have HT1 := Lib.hid (tk_u64 HRD.out (Nat.lt_of_lt_of_le (HDB.out db (by simp)) hsz))
      have HDBr : Hid (∀ x ∈ [rb, cb, db], x < wr.heap.size) := Lib.hid fun x hx => Nat.lt_of_lt_of_le (HDB.out x hx) hsz
      have BAD : Hid (∀ (e : Ending) (w' w2 : World), pX lr = none → Frm [rb] wr w2 → Thrown w2 rb cb 4 e w' → Q e w') := Lib.hid fun e w' w2 hpx hf2 ht => by
        rw [HQ.out]
        exact .inr ⟨by unfold pCX; rw [HP.out]; exact pXs_cut HPX.out hlt hpx, ht.early (HF.out.trans hf2 (fun x hx => hx) (fun x hx => .inl hx))⟩
      clear hsz
      go_wp2_with fail
      (with_reducible refine HT1.out.mono ?_)
      rintro e w2 (⟨x1, l1, hp1, hx1, rfl, hr1, hf1⟩ | ⟨hp1, ht⟩)
      case inr => 
        have hb := BAD.out _ _ _ (by unfold pX; rw [hp1]; rfl) (Frm.refl _ _) ht
        obtain ⟨rfl, _⟩ := ht
        exact ⟨rfl, hb⟩
      have HT2 := Lib.hid (tk_u64 hr1 (Nat.lt_of_lt_of_le (HDBr.out db (by simp)) hf1.size))
      have HF1 := Lib.hid hf1
      have HP1 := Lib.hid hp1
      clear hr1 hf1 hp1 HT1
      go_wp2_with fail
      (with_reducible refine HT2.out.mono ?_)
      rintro e w3 (⟨x2, l2, hp2, hx2, rfl, hr2, hf2⟩ | ⟨hp2, ht⟩)
      case inr => 
        have hb := BAD.out _ _ _ (by unfold pX; rw [HP1.out]; simp only [Option.bind_some]; rw [hp2]; rfl) HF1.out ht
        obtain ⟨rfl, _⟩ := ht
        exact ⟨rfl, hb⟩
      have HF2 := Lib.hid (HF1.out.trans hf2 (U := [rb]) (fun x hx => hx) (fun x hx => .inl hx))
      have HT3 := Lib.hid (tk_u64 hr2 (Nat.lt_of_lt_of_le (HDBr.out db (by simp)) HF2.out.size))
      have HP2 := Lib.hid hp2
      clear hr2 hf2 hp2 HT2
      go_wp2_with fail
      (with_reducible refine HT3.out.mono ?_)
      rintro e w4 (⟨x3, l3, hp3, hx3, rfl, hr3, hf3⟩ | ⟨hp3, ht⟩)
      case inr => 
        have hb := BAD.out _ _ _ (by unfold pX; rw [HP1.out]; simp only [Option.bind_some]; rw [HP2.out]; simp only [Option.bind_some]; rw [hp3]; rfl) HF2.out ht
        obtain ⟨rfl, _⟩ := ht
        exact ⟨rfl, hb⟩
      have HF3 := Lib.hid (HF2.out.trans hf3 (U := [rb]) (fun x hx => hx) (fun x hx => .inl hx))
      have HPX3 := Lib.hid (pXs_step HPX.out hlt (show pX lr = some (⟨x1, x2, x3⟩, l3) by unfold pX; rw [HP1.out]; simp only [Option.bind_some]; rw [HP2.out]; simp only [Option.bind_some]; rw [hp3]; rfl))
      have HRD3 := Lib.hid hr3
      have HFX : Hid (∀ y ∈ [(⟨x1, x2, x3⟩ : Sn)], y.fits) := Lib.hid fun y hy => by simp at hy; subst hy; exact ⟨hx1, hx2, hx3⟩
      have HO3 := Lib.hid (HO.out.keep (F' := [rb, cb, db]) HF3.out (fun x hx => by simp at hx; subst hx; exact .inl (by simp)) (fun x hx => .inl hx))
      have HLA := Lib.hid (HO3.out.keep (S := []) (F' := [rb, cb, db]) ((Frm.refl [] w4).alloc (.cells #[.int .u64 (x1 : Nat), .int .u64 (x2 : Nat), .int .u64 (x3 : Nat)] 118)) (by simp) (fun _ h => .inl h))
      have HLAO : Hid ((w4.alloc (.cells #[.int .u64 (x1 : Nat), .int .u64 (x2 : Nat), .int .u64 (x3 : Nat)] 118)).ownsRow w.heap.size 118 3 (.slice a an c) an (snc X)) := Lib.hid (by have h := HLA.out.own; rw [HXL.out, ← HAN.out] at h; exact h)
      have hank : an < 65536 := by have := HAN.out; omega
      have HSZ4 := Lib.hid (HF.out.trans HF3.out (U := [rb]) (fun x hx => hx) (fun x hx => .inl hx))
      clear hp3 hr3 hf3 HT3 BAD HO HRD HF1 HF2 HP1 HP2 hx1 hx2 hx3 HPX
      go_wp2_with (at_builtin; refine wpList_appS (by rfl) (.tmp 8) (.tmp 16) 42 rfl w.heap.size 118 i0 (.agg #[.int .u64 0, .int .u64 0, .int .u64 0]) 3 24 Tryz.underlying42 HI.out HZ0.out rfl (by decide) HZ1.out HZ2.out (by decide) (.slice a an c) an _ rfl HLAO.out (some ⟨w4.heap.size, 0, none⟩) 1 1 (snc [⟨x1, x2, x3⟩]) rfl (snvals_one w4 ⟨x1, x2, x3⟩ _) rfl (snc_one _) (fun h => by cases h) (by omega) (by have := HSZ4.out.size; simp; omega) ?_)
      intro a' c' w5 happ
      have g5 := HLA.out.app (by rw [HXL.out, HAN.out]) HFX.out rfl (fun x hx => Nat.lt_of_lt_of_le (HDBr.out x hx) (by have := HF3.out.size; simp; omega)) happ
      have hbl := HLA.out.blk_lt
      have haw := HLA.out.away
      have hr5 : Rdr w5 rb cb db l3 := (HRD3.out.keep ((Frm.refl [] w4).alloc (.cells #[.int .u64 (x1 : Nat), .int .u64 (x2 : Nat), .int .u64 (x3 : Nat)] 118)) (by simp) (by simp) (by simp)).keep g5.2.1 (fun hm => haw _ hm (by simp)) (fun hm => haw _ hm (by simp)) (fun hm => haw _ hm (by simp))
      have hf5 : Frm [rb] w w5 := (HSZ4.out.alloc (.cells #[.int .u64 (x1 : Nat), .int .u64 (x2 : Nat), .int .u64 (x3 : Nat)] 118)).trans g5.2.1 (fun x hx => hx) (fun x hx => .inr (hbl x hx).1)
      have HREL : Hid (TsRel w rb cb db n m1 (.slice a' (an + 1) c') (.int .u16 ((k + 1 : Nat) : Nat)) w5) := Lib.hid ⟨k + 1, a', c', an + 1, X ++ [⟨x1, x2, x3⟩], l3, hlt, rfl, rfl, Lib.hid (by rw [HAN.out]), Lib.hid (by rw [List.length_append, HXL.out]; rfl), Lib.hid g5.1, Lib.hid hr5, Lib.hid hf5, HPX3⟩
      have hk1 : ((k : Int) + 1) % 65536 = ((k + 1 : Nat) : Int) := by omega
      have hk2 : IntKind.u16.wrap ((k : Int) + 1) = ((k + 1 : Nat) : Int) := by rw [← hk1]; simp [IntKind.wrap, IntKind.bits, IntKind.signed]
      clear happ g5 hbl haw hr5 hf5
      go_wp2
      go_roundw
      case rel => exact HREL.out
      case measure => simp [intOf]; omega
    · obtain rfl : k = n := by omega
      have HE : Hid (Q (.returned (.slice a an c)) wr) := Lib.hid (by
        rw [HQ.out]
        refine .inl ⟨X, lr, a, c, ?_, by rw [HXL.out]; exact hn16', by rw [HAN.out, HXL.out], HO.out, HRD.out, HF.out⟩
        unfold pCX
        rw [HP.out]
        simp only [Option.bind_some]
        rw [HPX.out, Nat.sub_self]
        show some (X ++ [], lr) = _
        rw [List.append_nil])
      go_wp2
      exact HE.out
end Go.Proofs.YtbdgldlblkflpaaGreat
