/- The writer's Waiting. -/
import Derived.Test.YtecfoomjpjcldaaWrRows
import Derived.Test.YtecfoomjpjcldaaWrRest
namespace Go.Proofs.Ytecfoomjpjcldaa
open Go.RowKit
set_option maxRecDepth 100000
theorem infoIs : (Try.prog.info? 52).map (fun i => (i.zero, i.size, i.bytes)) = some (some (.slice none 0 0), 1, 24) := by kernel_rfl
/-- The places that haven't said so, of each that waits. -/
def lackL (P W : Nat) (H : Nat → Nat → Bool) (su n : Nat) : List (List Nat) := (List.range (n - su)).map fun i => keepI (H (su + i)) (setN P W (su + i))
theorem lackL_self (P W : Nat) (H : Nat → Nat → Bool) (su : Nat) : lackL P W H su su = [] := by simp [lackL]
theorem lackL_len (P W : Nat) (H : Nat → Nat → Bool) (su n : Nat) : (lackL P W H su n).length = n - su := by simp [lackL]
theorem lackL_succ (P W : Nat) (H : Nat → Nat → Bool) {su n : Nat} (h : su ≤ n) : lackL P W H su (n + 1) = lackL P W H su n ++ [keepI (H n) (setN P W n)] := by
  unfold lackL
  rw [show n + 1 - su = (n - su) + 1 by omega, List.range_succ, List.map_append, List.map_singleton, show su + (n - su) = n by omega]
def WaRel (w : World) (P W : Nat) (D : List (List Nat)) (H : Nat → Nat → Bool) (su : Nat) (s6 s4 s5 : Value) (wr : World) : Prop :=
  ∃ (n : Nat) (a : Option Addr) (k c : Nat) (X : List Ix) (b : Option Addr) (c' : Nat) (L : List (List Nat)) (V : List Value), s6 = .int .u64 (n : Nat) ∧ s4 = .slice a k c ∧ s5 = .slice b k c' ∧ k = X.length ∧ k = L.length ∧ k + su = n ∧ n ≤ D.length ∧
    Hid (IOwn wr w.heap.size 55 (blk b) a c X) ∧ Hid (LOwn wr w.heap.size (blk a) b c' L V) ∧ Hid (its X = itemsN D su n) ∧ Hid (L = lackL P W H su n) ∧ Hid (Frm [] w wr)
set_option maxHeartbeats 8000000 in
theorem waiting_any {w : World} {B p : Nat} {F : List Nat} {P W A : Nat} {D : List (List Nat)} {H : Nat → Nat → Bool} {su : Nat} {cl : Bool} (h : Wq w B p F P W A D H su cl) :
    Calls Try.prog 41 #[.pointer (some ⟨p, 0, none⟩)] w fun e w' => ∃ a c X b c' k, e = .returned (.tuple #[.slice a k c, .slice b k c']) ∧ k = D.length - su ∧ X.length = k ∧ its X = itemsN D su D.length ∧ IL w' [] a X ∧ PlIn w' [] b (lackL P W H su D.length) ∧ Frm [] w w' := by
  obtain ⟨i0, hinf, hz0, hz1, hz2⟩ := info_parts infoItW
  obtain ⟨j0, hjnf, hy0, hy1, hy2⟩ := info_parts infoIs
  have HINF := Lib.hid hinf
  have HJNF := Lib.hid hjnf
  have hw := h.wait
  obtain ⟨co, hco⟩ : ∃ co, co = D.length := ⟨_, rfl⟩
  have hco20 : co ≤ 1048576 := by omega
  obtain ⟨Y, hY, hl, he⟩ := h.box
  have c3 := (hY.cell 3).trans (wrC_head P W A su D.length cl Y).2.2.2.1
  have HR0 : Hid (WaRel w P W D H su (.int .u64 (su : Nat)) (.slice none 0 0) (.slice none 0 0) w) := Lib.hid ⟨su, none, 0, 0, [], none, 0, [], [], rfl, rfl, rfl, rfl, rfl, Nat.zero_add _, hw.1, Lib.hid (IOwn.nil _ _ _ _), Lib.hid (LOwn.nil _ _ _), Lib.hid (by rw [itemsN_self]; rfl), Lib.hid (lackL_self _ _ _ _).symm, Lib.hid (Frm.refl _ _)⟩
  have HCO := Lib.hid hco
  have H0 := Lib.hid h
  have HYY := Lib.hid hY
  have HL5 := Lib.hid hl
  have HEE := Lib.hid he
  have hmf : ∀ (fn : Fn) (first cap : Array Value) (w : World), (Instr.makeFunc fn first cap).run Try.prog w = .ok (.func fn first cap) w := fun _ _ _ _ => rfl
  clear h hY hl he hw hinf hjnf hco
  go_enter Try.func41, Try.ntmps41
  go_wp2
  clear c3
  go_loopw [6, 4, 5] (fun s6 s4 s5 wr => WaRel w P W D H su s6 s4 s5 wr) (fun s6 _ _ _ => co - (intOf s6).toNat)
  case atStart => exact HR0.out
  case round =>
    clear HR0
    obtain ⟨n, a, k, c, X, b, c', L, V, rfl, rfl, rfl, hkx, hkl, hks, hn2, HIO, HLO, HIT, HLA, HF⟩ := hrel
    rw [← HCO.out] at hn2
    have K4 : ∀ y, Frm [] wr y → y.cell? ⟨p, 4, none⟩ = some (.int .u64 (co : Nat)) := fun y hy => by
      rw [HCO.out]
      exact (((HF.out.trans hy (U := []) (by simp) (by simp)).whole HYY.out (by simp)).cell 4).trans (wrC_head P W A su D.length cl Y).2.2.2.2.1
    have c4 := K4 _ (Frm.refl _ _)
    have hn64 : n < 18446744073709551616 := by omega
    have hn1 : su ≤ n := by omega
    have HKX := Lib.hid hkx
    have HKL := Lib.hid hkl
    have HKS := Lib.hid hks
    have HN1 := Lib.hid hn1
    have HN2 := Lib.hid hn2
    clear hkx hkl
    by_cases hlt : n < co
    · have d1 : decide ((n : Int) < (co : Int)) = true := decide_eq_true (by omega)
      have d2 : decide (n < co) = true := decide_eq_true hlt
      have hkf : k ≤ 1048576 := by omega
      have hwm : IntKind.u64.wrap ((n : Int) + 1) = ((n + 1 : Nat) : Int) := by simp [IntKind.wrap, IntKind.bits, IntKind.signed]; omega
      have HWM := Lib.hid hwm
      have HLT := Lib.hid hlt
      have hwe := HEE.out n hn1 (by rw [← HCO.out]; exact hlt)
      obtain ⟨t, ht⟩ : ∃ t, t = n % 64 := ⟨_, rfl⟩
      have HAT := Lib.hid (fun (z : World) => wrat_any p n z hn64)
      rw [← ht] at hwe HAT
      have ht64 : t < 64 := by omega
      have E : ∀ j, j < 7 → ∀ y, Frm [] wr y → y.cell? ⟨p, 6 + t * 8 + 1 + j, none⟩ = some (.bool (H n j)) := fun j hj y hy => by
        have h1 := ((HF.out.trans hy (U := []) (by simp) (by simp)).whole HYY.out (by simp)).cell (6 + (t * 8 + 1 + j))
        rw [wrC_at] at h1
        rw [show 6 + t * 8 + 1 + j = 6 + (t * 8 + 1 + j) by omega]
        exact h1.trans (hwe.has j hj)
      have e0 := E 0 (by omega) _ (Frm.refl _ _)
      have e1 := E 1 (by omega) _ (Frm.refl _ _)
      have e2 := E 2 (by omega) _ (Frm.refl _ _)
      have e3 := E 3 (by omega) _ (Frm.refl _ _)
      have e4 := E 4 (by omega) _ (Frm.refl _ _)
      have e5 := E 5 (by omega) _ (Frm.refl _ _)
      have e6 := E 6 (by omega) _ (Frm.refl _ _)
      simp only [Nat.add_zero] at e0
      have HE0 := Lib.hid E
      obtain ⟨h0, hh0⟩ : ∃ h0, h0 = H n 0 := ⟨_, rfl⟩
      obtain ⟨h1, hh1⟩ : ∃ h1, h1 = H n 1 := ⟨_, rfl⟩
      obtain ⟨h2, hh2⟩ : ∃ h2, h2 = H n 2 := ⟨_, rfl⟩
      obtain ⟨h3, hh3⟩ : ∃ h3, h3 = H n 3 := ⟨_, rfl⟩
      obtain ⟨h4, hh4⟩ : ∃ h4, h4 = H n 4 := ⟨_, rfl⟩
      obtain ⟨h5, hh5⟩ : ∃ h5, h5 = H n 5 := ⟨_, rfl⟩
      obtain ⟨h6, hh6⟩ : ∃ h6, h6 = H n 6 := ⟨_, rfl⟩
      rw [← hh0] at e0; rw [← hh1] at e1; rw [← hh2] at e2; rw [← hh3] at e3; rw [← hh4] at e4; rw [← hh5] at e5; rw [← hh6] at e6
      have HH : Hid (h0 = H n 0 ∧ h1 = H n 1 ∧ h2 = H n 2 ∧ h3 = H n 3 ∧ h4 = H n 4 ∧ h5 = H n 5 ∧ h6 = H n 6) := Lib.hid ⟨hh0, hh1, hh2, hh3, hh4, hh5, hh6⟩
      have HTT := Lib.hid ht
      clear hh0 hh1 hh2 hh3 hh4 hh5 hh6 E hwe ht hwm hlt K4 hks hn1 hn2
      go_wp2_with fail
      (with_reducible refine (HAT.out _).mono ?_)
      rintro e w' ⟨rfl, rfl⟩
      go_wp2_with fail
      obtain ⟨wB, hwB⟩ : ∃ wB, wB = wr.alloc (.cells #[.bool h0, .bool h1, .bool h2, .bool h3, .bool h4, .bool h5, .bool h6] 93) := ⟨_, rfl⟩
      rw [← hwB]
      have hfB : Frm [] wr wB := by rw [hwB]; exact (Frm.refl _ _).alloc _
      have hBX : Whole wB wr.heap.size 93 #[.bool h0, .bool h1, .bool h2, .bool h3, .bool h4, .bool h5, .bool h6] := by rw [hwB]; exact Whole.made _ _ _
      have HFB := Lib.hid hfB
      have HBX := Lib.hid hBX
      have HITM := writem_any n (H0.out.here (HF.out.trans hfB (U := []) (by simp) (by simp))) HN1.out (by rw [← HCO.out]; exact HLT.out)
      have hdsm : (D.getD n []).length ≤ 256 := H0.out.small _ (by have := HLT.out; have := HCO.out; simp [show n < D.length by omega])
      obtain ⟨d, hd⟩ : ∃ d, d = D.getD n [] := ⟨_, rfl⟩
      rw [← hd] at HITM hdsm
      obtain ⟨dn, hdn⟩ : ∃ dn, dn = d.length := ⟨_, rfl⟩
      rw [← hdn] at HITM
      have HITM := Lib.hid HITM
      have HD := Lib.hid hd
      have HDN := Lib.hid hdn
      have HDS := Lib.hid hdsm
      have HWB := Lib.hid hwB
      clear hd hdn hdsm hwB hfB hBX e0 e1 e2 e3 e4 e5 e6
      (with_reducible refine HITM.out.mono ?_)
      rintro e w3 ⟨ia, ic', rfl, ho3, hf3⟩
      obtain ⟨wA, hwA⟩ : ∃ wA, wA = w3.alloc (.cells #[.int .u64 (n : Nat), .slice ia dn ic'] 55) := ⟨_, rfl⟩
      have hfA : Frm [] w3 wA := by rw [hwA]; exact (Frm.refl _ _).alloc _
      have hrA : Frm [] wr wA := (HFB.out.trans hf3 (U := []) (by simp) (by simp)).trans hfA (U := []) (by simp) (by simp)
      have hrl := hrA.size
      have hwr := HF.out.size
      have hioA := HIO.out.keep (F' := blk b) hrA (by simp) (fun x hx => .inl hx)
      have hloA := HLO.out.keep (F' := blk a) hrA (by simp) (fun x hx => .inl hx)
      have hbxA := ((hf3.trans hfA (U := []) (by simp) (by simp))).whole HBX.out (by simp)
      have HOWA : Hid (wA.ownsRow w.heap.size 55 2 (.slice a k c) k (ic X)) := Lib.hid (by have := hioA.own; rw [← HKX.out] at this; exact this)
      have HBA : Hid (w.heap.size ≤ wA.heap.size) := Lib.hid (by omega)
      have HVA : Hid (ValsAt wA (some ⟨w3.heap.size, 0, none⟩) (ic [⟨(n, d), ia, ic'⟩])) := Lib.hid (by
        rw [hwA, show ic [⟨(n, d), ia, ic'⟩] = [.int .u64 (n : Nat), .slice ia dn ic'] from by rw [HDN.out]; rfl]
        exact two_vals _ _ _ _ _)
      have HQA : Hid (∀ (a' : Option Addr) (c1 : Nat) (w4 : World), AppS wA w4 w.heap.size 55 2 (.slice a k c) k 1 (ic X) (ic [⟨(n, d), ia, ic'⟩]) a' c1 → IOwn w4 w.heap.size 55 (blk b) a' c1 (X ++ [⟨(n, d), ia, ic'⟩]) ∧ LOwn w4 w.heap.size (blk a') b c' L V ∧ Whole w4 wr.heap.size 93 #[.bool h0, .bool h1, .bool h2, .bool h3, .bool h4, .bool h5, .bool h6] ∧ k + 1 = (X ++ [(⟨(n, d), ia, ic'⟩ : Ix)]).length ∧ Frm [] w w4 ∧ wr.heap.size < w4.heap.size) := Lib.hid fun a' c1 w4 happ => by
        have h8 : ∀ c ∈ d, c < 256 := by
          have h9 := (HEE.out n HN1.out (by rw [← HCO.out]; exact HLT.out)).data
          obtain ⟨_, _, _, hb, _⟩ := h9
          rw [HD.out]; exact hb.1
        have hob := bytes_of_own (by have := ho3; rw [HDN.out] at this; exact this) h8
        have hia : ∀ x, ia = some x → wB.heap.size ≤ x.block := fun x hx => (ho3.lt x.block (by rw [hx]; rfl)).1
        have hB := HFB.out.size
        have hok : IOk wA (blk a ++ blk b) [⟨(n, d), ia, ic'⟩] := by
          intro y hy
          simp only [List.mem_singleton] at hy
          subst hy
          refine ⟨hfA.bytes' hob.2.1 (by simp), fun _ x hx hm => ?_, hob.2.2, hn64⟩
          have h1 := hia x hx
          rcases List.mem_append.1 hm with h2 | h2
          · have := (HIO.out.blk_lt _ h2).2; omega
          · have := (HLO.out.blk_lt _ h2).2; omega
        obtain ⟨g1, g2, g3, g4⟩ := hioA.app HKX.out hok rfl (fun y hy => by have := (HLO.out.blk_lt _ hy).2; omega) happ
        have hlt2 : wr.heap.size < wA.heap.size := by have := hbxA.lt; omega
        refine ⟨g1, hloA.keep g2 (fun x hx => .inl hx) (fun x hx => g3 x hx), g2.whole hbxA (fun hm => by have := (HIO.out.blk_lt _ hm).2; omega), g4, (HF.out.trans hrA (U := []) (by simp) (by simp)).trans g2 (by simp) (fun x hx => .inr (HIO.out.blk_lt x hx).1), by have := g2.size; omega⟩
      have HWAE := Lib.hid hwA
      clear ho3 hf3 hfA hrA hrl hwr hioA hloA hbxA hwA HITM
      go_wp2_with (at_builtin; rw [← HWAE.out]; refine wpList_appS rfl (.tmp 28) (.tmp 32) 49 rfl w.heap.size 55 i0 (.agg #[.int .u64 0, .slice none 0 0]) 2 32 Try.underlying49 HINF.out hz0 rfl (by omega) hz1 hz2 (by omega) (.slice a k c) k (ic X) rfl HOWA.out (some ⟨w3.heap.size, 0, none⟩) 1 1 (ic [⟨(n, d), ia, ic'⟩]) rfl HVA.out rfl (ic_one _) (fun h => by cases h) (by omega) HBA.out ?_)
      intro a' c1 w4 happ
      obtain ⟨g1, g2, g3, g4, g5, g6⟩ := HQA.out a' c1 w4 happ
      have HI4 := Lib.hid g1
      have HL4 := Lib.hid g2
      have HB4 := Lib.hid g3
      have HK4 := Lib.hid g4
      have HF4 := Lib.hid g5
      have HG4 := Lib.hid g6
      have hY4 := g5.whole HYY.out (by simp)
      have q0 := (hY4.cell 0).trans (wrC_head P W A su D.length cl Y).1
      have q1 := (hY4.cell 1).trans (wrC_head P W A su D.length cl Y).2.1
      have q2 := (hY4.cell 2).trans (wrC_head P W A su D.length cl Y).2.2.1
      obtain ⟨r1, r2, r3, r4⟩ := H0.out.quo
      have HS := Lib.hid (fun (z : World) => qset_any P W A n z r1 r2 r4 r3 hn64)
      have hW7 : W ≤ 7 := by omega
      clear happ g1 g2 g3 g4 g5 g6 HOWA HVA HBA HQA hY4 r1 r2 r3 r4
      go_wp2_with fail
      (with_reducible refine (HS.out _).mono ?_)
      rintro e w5 ⟨b1, hb1, rfl, hW5, hf5⟩
      have hB5 := hf5.whole HB4.out (by simp)
      have hlen : (setN P W n).length = W := by simp [setN]
      have hown5 : OwnI w5 w4.heap.size (some ⟨b1, 0, none⟩) W ((setN P W n).map ivl) := by
        unfold OwnI
        rw [List.length_map, hlen]
        refine ⟨by simp [hlen], .inr ⟨b1, W, _, rfl, hb1, hW5, Nat.le_refl _, by unfold maxLen; omega, by simp [rowI, hlen], ?_⟩⟩
        simp only [rowI, Nat.mul_one]
        rw [List.take_of_length_le (by simp [hlen])]
        rfl
      have hDEL := deleteI_any (some ⟨b1, 0, none⟩) W W w4.heap.size (setN P W n) #[.pointer (some ⟨wr.heap.size, 0, none⟩)] (H n) w5 hown5 hlen.symm (by omega) (fun z hz q hq => by
        have hq7 : q < 7 := by
          unfold setN at hq
          obtain ⟨i, hi, rfl⟩ := List.mem_map.1 hq
          have := plN_lt (P := P) (by have := H0.out.quo; omega) n i
          have := H0.out.quo
          omega
        refine waitf_any wr.heap.size q (H n q) z hq7 ?_
        have hgb : wr.heap.size ∉ blk (some ⟨b1, 0, none⟩) := by simp; have := HG4.out; omega
        have hz5 := hz.whole hB5 hgb
        obtain ⟨k0, k1, k2, k3, k4, k5, k6⟩ := HH.out
        rw [hz5.cell, k0, k1, k2, k3, k4, k5, k6]
        clear hz5 hgb hq k0 k1 k2 k3 k4 k5 k6
        match q, hq7 with
        | 0, _ => rfl
        | 1, _ => rfl
        | 2, _ => rfl
        | 3, _ => rfl
        | 4, _ => rfl
        | 5, _ => rfl
        | 6, _ => rfl)
      have HDEL := Lib.hid hDEL
      have HF5 := Lib.hid hf5
      have HB1 := Lib.hid hb1
      clear hf5 hW5 hB5 hlen hown5 hDEL hb1 HS HB4 q0 q1 q2
      go_wp2_with fail
      (with_reducible refine HDEL.out.mono ?_)
      rintro e w6 ⟨m, rfl, hm, hO6, hf6⟩
      obtain ⟨l, hl⟩ : ∃ l, l = keepI (H n) (setN P W n) := ⟨_, rfl⟩
      rw [← hl] at hm hO6
      have hf46 : Frm [] w4 w6 := HF5.out.trans hf6 (by simp) (fun x hx => .inr (by simp at hx; subst hx; exact HB1.out))
      obtain ⟨w7, hw7⟩ : ∃ w7, w7 = w6.alloc (.cells #[.slice (some ⟨b1, 0, none⟩) m W] 52) := ⟨_, rfl⟩
      have hf67 : Frm [] w6 w7 := by rw [hw7]; exact (Frm.refl _ _).alloc _
      have hf47 : Frm [] w4 w7 := hf46.trans hf67 (by simp) (by simp)
      have hl7 := HL4.out.keep (F' := blk a') hf47 (by simp) (fun x hx => .inl hx)
      have hi7 := HI4.out.keep (F' := blk b) hf47 (by simp) (fun x hx => .inl hx)
      have hs47 := hf47.size
      have HOW7 : Hid (w7.ownsRow w.heap.size 52 1 (.slice b k c') k V) := Lib.hid (by have := hl7.own; rw [← HKL.out] at this; exact this)
      have HV7 : Hid (ValsAt w7 (some ⟨w6.heap.size, 0, none⟩) [.slice (some ⟨b1, 0, none⟩) m W]) := Lib.hid (by rw [hw7]; exact ValsAt.one _ _ _)
      have HBS : Hid (w.heap.size ≤ w7.heap.size) := Lib.hid (by have := HF4.out.size; omega)
      have HNX : Hid (∀ (b' : Option Addr) (c2 : Nat) (w8 : World), AppV w7 w8 w.heap.size 52 (.slice b k c') k 1 V [.slice (some ⟨b1, 0, none⟩) m W] b' c2 → WaRel w P W D H su (.int .u64 ((n + 1 : Nat) : Nat)) (.slice a' (k + 1) c1) (.slice b' (k + 1) c2) w8) := Lib.hid fun b' c2 w8 happ => by
        have hrow : LRow w7 (blk b ++ blk a') (.slice (some ⟨b1, 0, none⟩) m W) l := by
          refine ⟨_, _, by rw [hm], (own_iinI hO6).keep hf67, fun _ x hx hmm => ?_⟩
          cases hx
          have h1 := HB1.out
          rcases List.mem_append.1 hmm with h2 | h2
          · have := (HL4.out.blk_lt _ h2).2; simp at this; omega
          · have := (HI4.out.blk_lt _ h2).2; simp at this; omega
        obtain ⟨g1, g2, g3, g4⟩ := hl7.app HKL.out hrow (fun y hy => by have := (HI4.out.blk_lt _ hy).2; omega) happ
        have hi8 := hi7.keep (F' := blk b') g2 (fun x hx => .inl hx) (fun x hx => g3 x hx)
        refine ⟨n + 1, a', k + 1, c1, _, b', c2, _, _, rfl, rfl, rfl, HK4.out, g4, by have := HKS.out; omega, by have := HLT.out; have := HCO.out; omega, Lib.hid hi8, Lib.hid g1, Lib.hid ?_, Lib.hid ?_, Lib.hid ((HF4.out.trans hf47 (U := []) (by simp) (by simp)).trans g2 (by simp) (fun x hx => .inr (HL4.out.blk_lt x hx).1))⟩
        · rw [itemsN_succ D HN1.out, ← HIT.out, ← HD.out]; simp [its]
        · rw [lackL_succ P W H HN1.out, ← hl, ← HLA.out]
      have HW7 := Lib.hid hw7
      have HMM : Hid (co - (n + 1) < co - n) := Lib.hid (by have := HLT.out; omega)
      clear hm hO6 hf6 hl hf46 hw7 hf67 hf47 hl7 hi7 hs47 HDEL
      go_wp2_with (at_builtin; rw [← HW7.out]; refine wpList_appV rfl (.tmp 34) (.tmp 43) 106 rfl w.heap.size 52 j0 (.slice none 0 0) 24 Try.underlying106 HJNF.out hy0 rfl hy1 hy2 (by decide) (.slice b k c') k V rfl HOW7.out (some ⟨w6.heap.size, 0, none⟩) 1 1 [.slice (some ⟨b1, 0, none⟩) m W] rfl HV7.out rfl (by simp [Value.oneCell']) (fun h => by cases h) (by omega) HBS.out ?_)
      intro b' c2 w8 happ
      have HREL := Lib.hid (HNX.out b' c2 w8 happ)
      obtain ⟨m1, hm1⟩ : ∃ m1, m1 = n + 1 := ⟨_, rfl⟩
      have hwm := HWM.out
      rw [← hm1] at HREL hwm HMM
      clear happ hm1 HOW7 HV7 HNX
      go_wp2
      go_roundw
      case rel => exact HREL.out
      case measure => have := HMM.out; simpa [intOf] using this
    · obtain rfl : n = co := by omega
      have d1 : decide ((n : Int) < (n : Int)) = false := by simp
      have d2 : decide (n < n) = false := by simp
      have HE : Hid (∃ a2 c2 X2 b2 c3 k2, (Ending.returned (.tuple #[.slice a k c, .slice b k c'])) = .returned (.tuple #[.slice a2 k2 c2, .slice b2 k2 c3]) ∧ k2 = D.length - su ∧ X2.length = k2 ∧ its X2 = itemsN D su D.length ∧ IL wr [] a2 X2 ∧ PlIn wr [] b2 (lackL P W H su D.length) ∧ Frm [] w wr) := Lib.hid (by
        rw [← HCO.out]
        refine ⟨a, c, X, b, c', k, rfl, by omega, HKX.out.symm, HIT.out, (HIO.out.il.keep (F' := []) (Frm.refl [] _) (by simp) (by simp)), ?_, HF.out⟩
        rw [← HLA.out]
        exact (HLO.out.lin.keep (F' := []) (Frm.refl [] _) (by simp) (by simp)))
      clear hlt K4 hks hn1 hn2
      go_wp2
      go_ret2
      exact HE.out
end Go.Proofs.Ytecfoomjpjcldaa
