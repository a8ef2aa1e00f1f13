/- Nodes taken as the parser says; contract of takeNodes. -/
import Derived.Test.YtbdgldlblkflpaaGreatZMtTakeC
import Derived.Test.YtbdgldlblkflpaaGreatMD
import Derived.Test.YtbdgldlblkflpaaGreatME
namespace Go.Proofs.YtbdgldlblkflpaaGreat
open Go.RowKit
set_option maxRecDepth 100000
theorem pB_len {l v m : List Nat} (h : pB l = some (v, m)) : v.length ≤ l.length := by
  unfold pB at h
  split at h
  · cases h
  · split at h
    · cases h
    · simp at h
      rw [← h.1]
      simp; omega
theorem pNs_cut {n : Nat} {l0 l : List Nat} {k : Nat} {X : List Nd} (h : pNs n l0 = (pNs (n - k) l).bind fun b => some (X ++ b.1, b.2)) (hk : k < n) (hn : pN l = none) : pNs n l0 = none := by
  rw [h, show n - k = (n - (k + 1)) + 1 by omega]
  unfold pNs
  rw [hn]
  rfl
theorem pNs_step {n : Nat} {l0 l m : List Nat} {k : Nat} {X : List Nd} {x : Nd} (h : pNs n l0 = (pNs (n - k) l).bind fun b => some (X ++ b.1, b.2)) (hk : k < n) (hn : pN l = some (x, m)) : pNs n l0 = (pNs (n - (k + 1)) m).bind fun b => some ((X ++ [x]) ++ b.1, b.2) := by
  rw [h, show n - k = (n - (k + 1)) + 1 by omega]
  conv => lhs; unfold pNs
  rw [hn]
  simp only [Option.bind_some]
  cases pNs (n - (k + 1)) m <;> simp
/-- So many of the rest are nodes: what is read, what is there still. -/
def TnRel (F : List Nat) (w : World) (rb cb db n : Nat) (l0 : List Nat) (s3 s6 : Value) (wr : World) : Prop :=
  ∃ (k : Nat) (a : Option Addr) (c an : Nat) (X : List Nx) (l : List Nat), k ≤ n ∧ s6 = .int .u16 (k : Nat) ∧ s3 = .slice a an c ∧ Hid (an = k) ∧ Hid (X.length = k) ∧ Hid (NOwn wr w.heap.size 59 (rb :: cb :: db :: F) a c X) ∧ Hid (Rdr wr rb cb db l) ∧ Hid (Frm [rb] w wr) ∧ Hid (pNs n l0 = (pNs (n - k) l).bind fun b => some (nds X ++ b.1, b.2))
def TkNs (F : List Nat) (w : World) (rb cb db : Nat) (l : List Nat) (e : Ending) (w' : World) : Prop :=
  (∃ X m a c, pCN l = some (nds X, m) ∧ X.length < 65536 ∧ e = .returned (.slice a X.length c) ∧ NOwn w' w.heap.size 59 (rb :: cb :: db :: F) a c X ∧ Rdr w' rb cb db m ∧ Frm [rb] w w') ∨ (pCN l = none ∧ Thrown w rb cb 4 e w')
/-- One node more: what the literal and the row say, what appending leaves. -/
theorem tn_step {F : List Nat} {w wr w1 w2 w4 : World} {rb cb db k n an c n2 c2 : Nat} {a a2 : Option Addr} {X : List Nx} {l0 lr v1 v2 m1 m2 m3 m4 : List Nat} {x3 x4 : Nat}
    (hDB : ∀ x ∈ (rb :: cb :: db :: F), x < w.heap.size) (hk : k < n) (han : an = k) (hXL : X.length = k) (hO : NOwn wr w.heap.size 59 (rb :: cb :: db :: F) a c X) (hF : Frm [rb] w wr) (hP : pNs n l0 = (pNs (n - k) lr).bind fun b => some (nds X ++ b.1, b.2)) (hrd : Rdr wr rb cb db lr)
    (hp1 : pB lr = some (v1, m1)) (hp2 : pB m1 = some (v2, m2)) (hp3 : pU 8 m2 = some (x3, m3)) (hp4 : pU 8 m3 = some (x4, m4)) (hx3 : x3 < 256 ^ 8) (hx4 : x4 < 256 ^ 8) (hn2 : n2 = v2.length)
    (hb2 : Bytes w2 a2 v2) (hl2 : a2 = none → c2 = 0) (hnw2 : ∀ q, a2 = some q → w1.heap.size ≤ q.block) (h01 : Frm [rb] wr w1) (h12 : Frm [rb] w1 w2) (h24 : Frm [rb] w2 w4) (hr4 : Rdr w4 rb cb db m4) :
    (w4.alloc (.cells #[.string (strOf v1), .slice a2 n2 c2, .int .u64 (x3 : Nat), .int .u64 (x4 : Nat)] 59)).ownsRow w.heap.size 59 4 (.slice a an c) an (nc X) ∧
    ValsAt (w4.alloc (.cells #[.string (strOf v1), .slice a2 n2 c2, .int .u64 (x3 : Nat), .int .u64 (x4 : Nat)] 59)) (some ⟨w4.heap.size, 0, none⟩) (nc [⟨⟨strOf v1, v2, x3, x4⟩, a2, c2⟩]) ∧
    w.heap.size ≤ (w4.alloc (.cells #[.string (strOf v1), .slice a2 n2 c2, .int .u64 (x3 : Nat), .int .u64 (x4 : Nat)] 59)).heap.size ∧
    ∀ a' c' w5, AppS (w4.alloc (.cells #[.string (strOf v1), .slice a2 n2 c2, .int .u64 (x3 : Nat), .int .u64 (x4 : Nat)] 59)) w5 w.heap.size 59 4 (.slice a an c) an 1 (nc X) (nc [⟨⟨strOf v1, v2, x3, x4⟩, a2, c2⟩]) a' c' →
      TnRel F w rb cb db n l0 (.slice a' (an + 1) c') (.int .u16 ((k + 1 : Nat) : Nat)) w5 := by
  subst n2
  subst an
  obtain ⟨W, hW⟩ : ∃ W, W = w4.alloc (.cells #[.string (strOf v1), .slice a2 v2.length c2, .int .u64 (x3 : Nat), .int .u64 (x4 : Nat)] 59) := ⟨_, rfl⟩
  have hval : ValsAt W (some ⟨w4.heap.size, 0, none⟩) (nc [⟨⟨strOf v1, v2, x3, x4⟩, a2, c2⟩]) := by rw [hW]; exact nvals_one w4 ⟨⟨strOf v1, v2, x3, x4⟩, a2, c2⟩ _
  have h14 : Frm [rb] w1 w4 := h12.trans h24 (fun x hx => hx) (fun x hx => .inl hx)
  have h04 : Frm [rb] wr w4 := h01.trans h14 (fun x hx => hx) (fun x hx => .inl hx)
  have h4W : Frm [] w4 W := by rw [hW]; exact (Frm.refl _ _).alloc _
  have h0W : Frm [rb] wr W := h04.trans h4W (fun x hx => hx) (by simp)
  have hwW : Frm [rb] w W := hF.trans h0W (fun x hx => hx) (fun x hx => .inl hx)
  have hOW : NOwn W w.heap.size 59 (rb :: cb :: db :: F) a c X := hO.keep h0W (fun x hx => by simp at hx; subst hx; exact .inl (by simp)) (fun x hx => .inl hx)
  rw [← hW]
  refine ⟨by have h := hOW.own; rw [hXL] at h; exact h, hval, hwW.size, fun a' c' w5 happ => ?_⟩
  have hs1 := h01.size
  have hs0 := hF.size
  have hrb := hDB rb (by simp)
  have hb4 : Bytes W a2 v2 := by
    refine (h24.trans h4W (U := [rb]) (fun x hx => hx) (by simp)).bytes hb2 fun q hq hm => ?_
    have := hnw2 q hq
    simp at hm
    omega
  have hok : NOk W (blk a ++ (rb :: cb :: db :: F)) [⟨⟨strOf v1, v2, x3, x4⟩, a2, c2⟩] := by
    intro y hy
    simp at hy
    subst hy
    refine ⟨hb4, fun _ q hq hm => ?_, hl2, by simpa using hx3, by simpa using hx4, ?_⟩
    · have h1 := hnw2 q hq
      rcases List.mem_append.1 hm with h | h
      · have := hO.blk_lt _ h; omega
      · have := hDB _ h; omega
    · have h1 := pB_len hp1
      have h2 := hrd.fits
      show (strOf v1).size ≤ _
      rw [strOf_size]; omega
  have hFW : ∀ x ∈ (rb :: cb :: db :: F), x < W.heap.size := fun x hx => Nat.lt_of_lt_of_le (hDB x hx) hwW.size
  have g5 := hOW.app hXL.symm hok rfl hFW happ
  have haw := hOW.away
  have hr5 : Rdr w5 rb cb db m4 := (hr4.keep h4W (by simp) (by simp) (by simp)).keep g5.2.1 (fun hm => haw _ hm (by simp)) (fun hm => haw _ hm (by simp)) (fun hm => haw _ hm (by simp))
  have hf5 : Frm [rb] w w5 := hwW.trans g5.2.1 (fun x hx => hx) (fun x hx => .inr (hOW.blk_lt x hx).1)
  have hpn : pN lr = some (⟨strOf v1, v2, x3, x4⟩, m4) := by
    unfold pN
    rw [hp1]; simp only [Option.bind_some]; rw [hp2]; simp only [Option.bind_some]; rw [hp3]; simp only [Option.bind_some]; rw [hp4]; rfl
  refine ⟨k + 1, a', c', k + 1, X ++ [⟨⟨strOf v1, v2, x3, x4⟩, a2, c2⟩], m4, hk, rfl, rfl, Lib.hid rfl, Lib.hid (by rw [List.length_append, hXL]; rfl), Lib.hid g5.1, Lib.hid hr5, Lib.hid hf5, Lib.hid ?_⟩
  have := pNs_step hP hk hpn
  rw [this]
  simp [nds]

set_option maxHeartbeats 16000000 in
theorem takeNodes_any {w : World} {rb cb db : Nat} {l : List Nat} (F : List Nat) (h : Rdr w rb cb db l) (hdb : db < w.heap.size) (hF : ∀ x ∈ F, x < w.heap.size) :
    Calls Tryz.prog 142 #[.pointer (some ⟨rb, 0, none⟩)] w (TkNs F w rb cb db l) := by
  obtain ⟨i0, hi0, hz0, hz1, hz2⟩ := info_parts Tryz.info59
  have HI := Lib.hid hi0; clear hi0
  have HZ0 := Lib.hid hz0; clear hz0
  have HZ1 := Lib.hid hz1; clear hz1
  have HZ2 := Lib.hid hz2; clear hz2
  have HN := Lib.hid (tk_u16 h hdb)
  have hlt := h.lt
  have HDB : Hid (∀ x ∈ (rb :: cb :: db :: F), x < w.heap.size) := Lib.hid (by intro x hx; simp at hx; rcases hx with rfl | rfl | rfl | hx; exact hlt.1; exact hlt.2; exact hdb; exact hF x hx)
  obtain ⟨Q, hQ⟩ : ∃ Q, Q = TkNs F w rb cb db l := ⟨_, rfl⟩
  rw [← hQ]
  have HQ := Lib.hid hQ
  clear h hdb hlt hQ hF
  go_enter Tryz.func142, Tryz.ntmps142
  go_wp2_with fail
  (with_reducible refine HN.out.mono ?_)
  rintro e w1 (⟨n, m1, hp, hn16, rfl, hr, hf⟩ | ⟨hp, rfl, h1, h2⟩)
  case inr => exact ⟨rfl, by rw [HQ.out]; exact .inr ⟨by unfold pCN; rw [hp]; rfl, rfl, h1, h2⟩⟩
  have hn16' : n < 65536 := by simpa using hn16
  have HP := Lib.hid hp
  have HR0 : Hid (TnRel F w rb cb db n m1 (.slice none 0 0) (.int .u16 (0 : Nat)) w1) := Lib.hid ⟨0, none, 0, 0, [], m1, Nat.zero_le _, rfl, rfl, Lib.hid rfl, Lib.hid rfl, Lib.hid (NOwn.nil _ _ _ _), Lib.hid hr, Lib.hid hf, Lib.hid (by cases pNs n m1 <;> simp [nds])⟩
  clear hp hr hf HN hn16
  go_wp2
  go_loopw [3, 6] (fun s3 s6 wr => TnRel F w rb cb db n m1 s3 s6 wr) (fun _ s6 _ => n - (intOf s6).toNat)
  case atStart => exact HR0.out
  case round =>
    clear HR0
    obtain ⟨k, a, c, an, X, lr, hk, rfl, rfl, HAN, HXL, HO, HRD, HF, HPX⟩ := hrel
    by_cases hlt : k < n
    · have hsz := HF.out.size
      have HDBr : Hid (∀ x ∈ (rb :: cb :: db :: F), x < wr.heap.size) := Lib.hid fun x hx => Nat.lt_of_lt_of_le (HDB.out x hx) hsz
      have HB0 := Lib.hid (tk_bytes (HRD.out.keep (Frm.refl [] wr).drew (by simp) (by simp) (by simp)) (show db < wr.drew.heap.size from HDBr.out db (by simp)))
      have BAD : Hid (∀ (z : World) (e : Ending) (w' : World), Frm [rb] wr z → pN lr = none → Thrown z rb cb 4 e w' → Q e w') := Lib.hid fun z e w' hf2 hpx ht => by
        rw [HQ.out]
        exact .inr ⟨by unfold pCN; rw [HP.out]; exact pNs_cut HPX.out hlt hpx, ht.early (HF.out.trans hf2 (fun x hx => hx) (fun x hx => .inl hx))⟩
      have hank : an + 1 ≤ 1000000000 := by have := HAN.out; omega
      have s0 : Frm [rb] wr wr.drew := (Frm.refl _ _).drew
      have hk2 : IntKind.u16.wrap ((k : Int) + 1) = ((k + 1 : Nat) : Int) := by
        have hk1 : ((k : Int) + 1) % 65536 = ((k + 1 : Nat) : Int) := by omega
        rw [← hk1]; simp [IntKind.wrap, IntKind.bits, IntKind.signed]
      clear hsz HP
      go_wp2
      go_region_law (first
        | (go_simp; go_at_call 143; (with_reducible refine HB0.out.mono ?_); rintro e w1 (⟨v1, m1, a1, n1, c1, hp1, hn1, rfl, hb1, hl1, hnw1, hr1, hf1⟩ | ⟨hp1, ht⟩); rotate_left 1; (have hb := BAD.out _ _ _ s0 (by unfold pN; rw [hp1]; rfl) ht; obtain ⟨rfl, _⟩ := ht; exact ⟨rfl, hb⟩); have s1 : Frm [rb] wr w1 := s0.trans hf1 (fun x hx => hx) (fun x hx => .inl hx); have t1 : Frm [rb] w1 w1 := Frm.refl _ _; have cv1 : ∀ y, Frm [rb] w1 y → (Go.convert 35 9 (.slice a1 n1 c1)).run Tryz.prog y = .ok (.string (strOf v1)) y := fun y hy => run_to_string (P := Tryz.prog) (src := 35) (dst := 9) (e := 5) Tryz.underlying35 Tryz.underlying5 Tryz.underlying9 (hy.bytes hb1 (fun q hq hm => by have h1 := hnw1.out q hq; have h2 := HDBr.out rb (by simp); have h3 := s0.size; simp at hm; omega)) hn1.out)
        | (go_simp; go_at_call 143; (with_reducible refine (tk_bytes hr1 (by have := HDBr.out db (by simp); have := s1.size; omega)).mono ?_); rintro e w2 (⟨v2, m2, a2, n2, c2, hp2, hn2, rfl, hb2, hl2, hnw2, hr2, hf2⟩ | ⟨hp2, ht⟩); rotate_left 1; (have hb := BAD.out _ _ _ s1 (by unfold pN; rw [hp1]; simp only [Option.bind_some]; rw [hp2]; rfl) ht; obtain ⟨rfl, _⟩ := ht; exact ⟨rfl, hb⟩); have s2 : Frm [rb] wr w2 := s1.trans hf2 (fun x hx => hx) (fun x hx => .inl hx); have t2 : Frm [rb] w1 w2 := hf2)
        | (go_simp; go_at_call 140; (with_reducible refine (tk_u64 hr2 (by have := HDBr.out db (by simp); have := s2.size; omega)).mono ?_); rintro e w3 (⟨x3, m3, hp3, hx3, rfl, hr3, hf3⟩ | ⟨hp3, ht⟩); rotate_left 1; (have hb := BAD.out _ _ _ s2 (by unfold pN; rw [hp1]; simp only [Option.bind_some]; rw [hp2]; simp only [Option.bind_some]; rw [hp3]; rfl) ht; obtain ⟨rfl, _⟩ := ht; exact ⟨rfl, hb⟩); have s3 : Frm [rb] wr w3 := s2.trans hf3 (fun x hx => hx) (fun x hx => .inl hx); have t3 : Frm [rb] w1 w3 := t2.trans hf3 (fun x hx => hx) (fun x hx => .inl hx))
        | (go_simp; go_at_call 140; (with_reducible refine (tk_u64 hr3 (by have := HDBr.out db (by simp); have := s3.size; omega)).mono ?_); rintro e w4 (⟨x4, m4, hp4, hx4, rfl, hr4, hf4⟩ | ⟨hp4, ht⟩); rotate_left 1; (have hb := BAD.out _ _ _ s3 (by unfold pN; rw [hp1]; simp only [Option.bind_some]; rw [hp2]; simp only [Option.bind_some]; rw [hp3]; simp only [Option.bind_some]; rw [hp4]; rfl) ht; obtain ⟨rfl, _⟩ := ht; exact ⟨rfl, hb⟩); have t4 : Frm [rb] w1 w4 := t3.trans hf4 (fun x hx => hx) (fun x hx => .inl hx); have HST := Lib.hid (tn_step HDB.out hlt HAN.out HXL.out HO.out HF.out HPX.out HRD.out hp1 hp2 hp3 hp4 hx3 hx4 hn2.out hb2 hl2 hnw2.out s1 hf2 (hf3.trans hf4 (U := [rb]) (fun x hx => hx) (fun x hx => .inl hx)) hr4))
        | (refine step_appS (by rfl) (.tmp 8) (.tmp 19) 39 rfl w.heap.size 59 i0 (.agg #[.string ⟨#[]⟩, .slice none 0 0, .int .u64 0, .int .u64 0]) 4 56 Tryz.underlying39 HI.out HZ0.out rfl (by decide) HZ1.out HZ2.out (by decide) (.slice a an c) an _ rfl HST.out.1 _ 1 1 _ rfl HST.out.2.1 rfl (nc_one _) (fun h => by cases h) hank HST.out.2.2.1 (an + 1) rfl ?_; intro a5 c5 w5 happ5; have HREL := Lib.hid (HST.out.2.2.2 a5 c5 w5 happ5); clear happ5))
      all_goals
        clear HST cv1 hb1 hb2 hr1 hr2 hr3 hr4 hf1 hf2 hf3 hf4 s1 s2 s3 t1 t2 t3 t4 hp1 hp2 hp3 hp4 hx3 hx4 hn1 hn2 hl1 hl2 hnw1 hnw2
        go_wp2
        go_roundw
        case rel => exact HREL.out
        case measure => simp [intOf]; omega
    · obtain rfl : k = n := by omega
      have HE : Hid (Q (.returned (.slice a an c)) wr) := Lib.hid (by
        rw [HQ.out]
        refine .inl ⟨X, lr, a, c, ?_, by rw [HXL.out]; exact hn16', by rw [HAN.out, HXL.out], HO.out, HRD.out, HF.out⟩
        unfold pCN
        rw [HP.out]
        simp only [Option.bind_some]
        rw [HPX.out, Nat.sub_self]
        show some (nds X ++ [], lr) = _
        rw [List.append_nil])
      go_wp2
      exact HE.out
end Go.Proofs.YtbdgldlblkflpaaGreat
