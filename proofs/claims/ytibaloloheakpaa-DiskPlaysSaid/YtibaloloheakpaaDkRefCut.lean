/- The document's disk: contracts of Cut and Crash. -/
import Derived.Test.YtibaloloheakpaaDkRef
import Derived.Deep.DeepCutAuto
namespace Go.Proofs.Ytibaloloheakpaa
open Go.RowKit

theorem rcut_bad {w : World} {B m : Nat} {G l : List Nat} {s room : Nat} (n : Int) (h : Rf w B m G l s room) (hn : n < 0 ∨ (l.length : Int) < n) :
    Calls Try.prog 13 #[.pointer (some ⟨m, 0, none⟩), .int .i64 n] w fun e w' => e = .returned (.int .i64 2) ∧ w = w' := by
  obtain ⟨hs, a, cap, hm, hh, rfl⟩ := h
  obtain ⟨k, hk⟩ : ∃ k, k = l.length := ⟨_, rfl⟩
  rw [← hk] at hm hn
  have c2 := hm.cell 2
  simp at c2
  clear hm hh hk hs
  rcases hn with hn | hn
  · go_enter Try.func13, Try.ntmps13
    go_wp2
    go_ret
    exact ⟨rfl, rfl⟩
  · have h' : ¬ n < 0 := by omega
    go_enter Try.func13, Try.ntmps13
    go_wp2
    go_ret
    exact ⟨rfl, rfl⟩

set_option maxHeartbeats 1000000 in
theorem rcut_ok {w : World} {B m : Nat} {G l : List Nat} {s room : Nat} (n : Nat) (h : Rf w B m G l s room) (hn : n ≤ l.length) :
    Calls Try.prog 13 #[.pointer (some ⟨m, 0, none⟩), .int .i64 (n : Nat)] w (RfRet w B m G (l.take n) (min s n) room (.int .i64 0)) := by
  obtain ⟨hs, a, cap, hm, hh, rfl⟩ := h
  have hne := hd_ne hh hm (by decide)
  have hcl := hh.cap_le
  obtain ⟨k, hk⟩ : ∃ k, k = l.length := ⟨_, rfl⟩
  rw [← hk] at hm hcl hs
  have hnk : n ≤ k := by omega
  have hcut := fun w => run_head_h Try.underlying29 sizeU8 w a k cap n (by omega)
  have hlen : (l.take n).length = n := by simp; omega
  have h8 : ∀ c ∈ l.take n, c < 256 := fun c hc => hs.1 c (List.mem_of_mem_take hc)
  have c1 := hm.cell 1
  have c2 := hm.cell 2
  have f1 := hm.free 1
  have f2 := hm.free 2
  simp at c1 c2
  have hs2 : s ≤ 16777216 := by omega
  have HS := Lib.hid hs; clear hs
  have HM := Lib.hid hm; clear hm
  have HH := Lib.hid hh; clear hh
  have HL := Lib.hid hlen; clear hlen
  have H8 := Lib.hid h8; clear h8
  have HNE := Lib.hid hne; clear hne hk
  by_cases hsn : n < s
  · go_enter Try.func13, Try.ntmps13
    go_wp2
    go_ret
    have hp := (HM.out.put 2 (.slice a n cap)).put 1 (.int .i64 (n : Nat))
    have hf : Frm [m] w ((w.setCell ⟨m, 2, none⟩ (.slice a n cap)).setCell ⟨m, 1, none⟩ (.int .i64 (n : Nat))) := ((Frm.refl _ _).setCell (.inl (by simp)) _).setCell (.inl (by simp)) _
    have hl := HL.out
    have hm' := HNE.out
    refine ⟨rfl, m :: blk a, ⟨⟨H8.out, HS.out.2.1, by omega, by have := HS.out.2.2.2.1; omega, HS.out.2.2.2.2⟩, a, cap, ?_, (HH.out.less n).keep hf (fun g hg hx => by simp at hx; subst hx; exact hm' hg), rfl⟩, hf.weak (fun x hx => .inl (by simp at hx; simp [hx])), fun x hx => .inl hx⟩
    rw [hl, show min s n = n by omega]
    simpa using hp
  · go_enter Try.func13, Try.ntmps13
    go_wp2
    go_ret
    have hp := HM.out.put 2 (.slice a n cap)
    have hf : Frm [m] w (w.setCell ⟨m, 2, none⟩ (.slice a n cap)) := (Frm.refl _ _).setCell (.inl (by simp)) _
    have hl := HL.out
    have hm' := HNE.out
    refine ⟨rfl, m :: blk a, ⟨⟨H8.out, HS.out.2.1, by omega, by have := HS.out.2.2.2.1; omega, HS.out.2.2.2.2⟩, a, cap, ?_, (HH.out.less n).keep hf (fun g hg hx => by simp at hx; subst hx; exact hm' hg), rfl⟩, hf.weak (fun x hx => .inl (by simp at hx; simp [hx])), fun x hx => .inl hx⟩
    rw [hl, show min s n = s by omega]
    simpa using hp

/-- Where all that is left is stored. -/
theorem rcrash_end {w w2 : World} {B m : Nat} {a a' : Option Addr} {cap cap' : Nat} {l' : List Nat} {s room k : Nat} (hm : Whole w m 31 #[.int .i64 (room : Nat), .int .i64 (s : Nat), .slice a k cap])
    (hf2 : Frm [] w w2) (ho : w2.ownsRow w.heap.size 5 1 (.slice a' l'.length cap') l'.length (l'.map u8v)) (h8 : ∀ c ∈ l', c < 256) (hB : B ≤ m) (hl : l'.length ≤ room) (hr : room ≤ 16777216) :
    RfTo w ((w2.setCell ⟨m, 2, none⟩ (.slice a' l'.length cap')).setCell ⟨m, 1, none⟩ (.int .i64 (l'.length : Nat))) B m (m :: blk a) l' l'.length room := by
  have hm2 := hf2.whole hm (by simp)
  have hp := (hm2.put 2 (.slice a' l'.length cap')).put 1 (.int .i64 (l'.length : Nat))
  have hf : Frm [m] w2 ((w2.setCell ⟨m, 2, none⟩ (.slice a' l'.length cap')).setCell ⟨m, 1, none⟩ (.int .i64 (l'.length : Nat))) := ((Frm.refl _ _).setCell (.inl (by simp)) _).setCell (.inl (by simp)) _
  have hh := (Hd.ofOwn ho).2
  have hne := hd_ne hh hm2 (by decide)
  have hlt := hm.lt
  refine ⟨m :: blk a', ⟨⟨h8, hB, Nat.le_refl _, hl, hr⟩, a', cap', by simpa using hp, (hh.rebase (by omega)).keep hf (fun g hg hx => by simp at hx; subst hx; exact hne hg), rfl⟩, hf2.trans hf (by simp) (fun x hx => .inl (by simp at hx; simp [hx])), fun x hx => ?_⟩
  simp only [List.mem_cons] at hx
  rcases hx with rfl | hx
  · left; simp
  · right; exact (hh.blk_lt x hx).1

theorem flipLast_set (l : List Nat) (bit : Nat) (h : 0 < l.length) : l.set (l.length - 1) (l.getD (l.length - 1) 0 ^^^ 2 ^ bit) = flipLast l bit := by
  rw [List.set_eq_take_append_cons_drop, if_pos (by omega), List.drop_eq_nil_of_le (by omega)]
  rfl
set_option maxHeartbeats 2000000 in
theorem rcrash_any {w : World} {B m : Nat} {G l : List Nat} {s room : Nat} (keep bit : Int) (h : Rf w B m G l s room) :
    Calls Try.prog 15 #[.pointer (some ⟨m, 0, none⟩), .int .i64 keep, .int .i64 bit] w (RfRet w B m G (crashed l s keep bit) (crashed l s keep bit).length room (.tuple #[])) := by
  obtain ⟨hs, a, cap, hm, hh, rfl⟩ := h
  have hcl := hh.cap_le
  obtain ⟨k, hk⟩ : ∃ k, k = l.length := ⟨_, rfl⟩
  have hm0 := hm
  rw [← hk] at hm hcl
  have hk2 : k ≤ 16777216 := by omega
  have hs2 : s ≤ k := by omega
  obtain ⟨j, hj⟩ : ∃ j, j = keptN l s keep := ⟨_, rfl⟩
  have hj2 : s + j ≤ k := by rw [hj, hk]; unfold keptN; omega
  have hq : max (min keep ((k : Int) - s)) 0 = (j : Int) := by rw [hj, hk]; unfold keptN; omega
  have hcut := fun w => run_head_h Try.underlying29 sizeU8 w a k cap (s + j) (by omega)
  simp only [Int.natCast_add] at hcut
  have hlen : (l.take (s + j)).length = s + j := by simp; omega
  have h8 : ∀ c ∈ l.take (s + j), c < 256 := fun c hc => hs.1 c (List.mem_of_mem_take hc)
  have c1 := hm.cell 1
  have c2 := hm.cell 2
  simp at c1 c2
  have hsub : IntKind.i64.wrap ((k : Int) - (s : Int)) = (k : Int) - s := IntWalk.i64_in _ (by omega)
  have hadd : IntKind.i64.wrap ((s : Int) + (j : Int)) = ((s + j : Nat) : Int) := by rw [show ((s : Int) + (j : Int)) = ((s + j : Nat) : Int) by omega]; exact IntWalk.i64_in _ (by omega)
  obtain ⟨i0, hi, hz0, hz1, hz2⟩ := info_parts Try.info5
  have HI := Lib.hid hi; clear hi
  have HZ0 := Lib.hid hz0; clear hz0
  have HZ1 := Lib.hid hz1; clear hz1
  have HZ2 := Lib.hid hz2; clear hz2
  have HS := Lib.hid hs; clear hs
  have HM := Lib.hid hm; clear hm hm0
  have HH := Lib.hid hh; clear hh
  have HL := Lib.hid hlen; clear hlen
  have H8 := Lib.hid h8; clear h8
  have HJ := Lib.hid hj; clear hj
  have HK := Lib.hid hk; clear hk
  have hsame : ∀ q, Whole ((w.drewN q).alloc (.cells #[] 5)) m 31 #[.int .i64 (room : Nat), .int .i64 (s : Nat), .slice a k cap] := fun q => (HM.out.drewN q).alloc _
  have e1 : ∀ q, ((w.drewN q).alloc (.cells #[] 5)).cell? ⟨m, 1, none⟩ = some (.int .i64 (s : Nat)) := fun q => by rw [(hsame q).cell]; rfl
  have e2 : ∀ q, ((w.drewN q).alloc (.cells #[] 5)).cell? ⟨m, 2, none⟩ = some (.slice a k cap) := fun q => by rw [(hsame q).cell]; rfl
  have OWN := Lib.hid (fun (q : Nat) => World.ownsRow_lit (base := w.heap.size) (e := 5) (size := 1) (w.drewN q) #[] 0 (Nat.le_refl _) (by unfold maxLen; omega) rfl)
  have BYT := Lib.hid (fun (q : Nat) => (((Frm.refl [] w).drewN q).alloc (.cells #[] 5)).bytes ((HH.out.bytes HS.out.1).take (s + j)) (by simp))
  have NC := Lib.hid HH.out.none_cap
  have FRA := Lib.hid (fun (q : Nat) => ((Frm.refl [] w).drewN q).alloc (.cells #[] 5))
  clear hsame
  have HQ := Lib.hid hq; clear hq
  go_enter Try.func15, Try.ntmps15
  go_wp2
  go_quiet (fail)
  go_upto_if 20 with (fail)
  go_cut [6] (fun v wx => wx = w.drewN nq ∧ v = .int .i64 (min keep ((k : Int) - s)))
  case first =>
    by_cases hc : keep < (k : Int) - s
    · go_wp2_with fail
      go_meet
      case rel => exact ⟨rfl, same_int (by omega)⟩
    · go_wp2_with fail
      go_meet
      case rel => exact ⟨rfl, same_int (by omega)⟩
  case rest =>
    obtain ⟨rfl, rfl⟩ := hcut
    obtain ⟨q, hqe⟩ : ∃ q, q = min keep ((k : Int) - s) := ⟨_, rfl⟩
    rw [← hqe] at HQ ⊢
    have HQE := Lib.hid hqe; clear hqe
    go_upto_if 23 with (fail)
    go_cut [6] (fun v wx => wx = w.drewN nq ∧ v = .int .i64 (j : Nat))
    case first =>
      by_cases hc : q < 0
      · go_wp2_with fail
        go_meet
        case rel => exact ⟨rfl, same_int (by have := HQ.out; omega)⟩
      · go_wp2_with fail
        go_meet
        case rel => exact ⟨rfl, same_int (by have := HQ.out; omega)⟩
    case rest =>
      obtain ⟨rfl, rfl⟩ := hcut
      go_upto_region 5 with (fail)
      go_cut [7] (fun v wx => ∃ a' cap', v = .slice a' (s + j) cap' ∧ wx.ownsRow w.heap.size 5 1 (.slice a' (s + j) cap') (s + j) ((l.take (s + j)).map u8v) ∧ Frm [] w wx)
      case first =>
        go_region_law ((refine step_app rfl (.tmp 24) (.tmp 35) 29 rfl w.heap.size 5 i0 Try.underlying29 HI.out HZ0.out HZ1.out HZ2.out (.slice (some ⟨w.heap.size, 0, none⟩) 0 0) 0 [] rfl (OWN.out _) _ _ _ (l.take (s + j)) rfl (BYT.out _) HL.out.symm NC.out ?_ ?_ ?_; (omega); (simp); intro a' cap' w1 happ; have HA := Lib.hid (And.intro happ.own ((FRA.out _).grown happ.grown (fun k hk => .inr (by simp [Value.ownBlock] at hk; omega)))); clear happ))
        all_goals
          obtain ⟨ho, hf⟩ := HA.out
          have ho' : _ := ho
          simp only [Nat.zero_add, List.nil_append] at ho'
          have HO := Lib.hid ho'
          have HF := Lib.hid hf
          clear ho ho' hf HA
          go_wp2_with fail
          go_meet
          case rel => exact ⟨_, _, rfl, HO.out, HF.out⟩
      case rest =>
        obtain ⟨a', cap', rfl, ho, hf⟩ := hcut
        clear OWN BYT NC FRA e1 e2 hcut HI HZ0 HZ1 HZ2
        have HO := Lib.hid ho; clear ho
        have HF := Lib.hid hf; clear hf
        have PLAIN : Hid (crashed l s keep bit = l.take (s + j) → RfRet w B m (m :: blk a) (crashed l s keep bit) (crashed l s keep bit).length room (.tuple #[]) (.returned (.tuple #[])) ((wc.setCell ⟨m, 2, none⟩ (.slice a' (s + j) cap')).setCell ⟨m, 1, none⟩ (.int .i64 ((s + j : Nat) : Int)))) := by
          intro hc
          have hl := HL.out
          have := rcrash_end (B := B) (a' := a') (cap' := cap') (l' := l.take (s + j)) HM.out HF.out (by rw [hl]; exact HO.out) H8.out HS.out.2.1 (by rw [hl]; have := HS.out.2.2.2.1; have := HK.out; omega) HS.out.2.2.2.2
          rw [hc, hl] at *
          exact ⟨rfl, this⟩
        have hmc := HF.out.whole HM.out (by simp)
        have k1 := hmc.cell 1
        have k2 := hmc.cell 2
        have g1 := hmc.free 1
        have g2 := hmc.free 2
        simp at k1 k2
        clear hmc c1 c2
        have hcs : j = 0 ∨ (0 < j ∧ bit < 0) ∨ (0 < j ∧ 0 ≤ bit ∧ 7 < bit) ∨ (0 < j ∧ 0 ≤ bit ∧ bit ≤ 7) := by omega
        rcases hcs with hj0 | ⟨hj0, hb⟩ | ⟨hj0, hb, hb2⟩ | ⟨hj0, hb, hb2⟩
        · have EP := Lib.hid (PLAIN.out (by have := HJ.out; rw [crashed_plain (by omega), ← this])); clear PLAIN
          subst hj0
          go_wp2
          go_end0
          first | exact EP.out | (have e := EP.out; simp only [Nat.add_zero] at e; exact e) | (have e := EP.out; simp only [Int.natCast_add] at e; exact e)
        · have EP := Lib.hid (PLAIN.out (by have := HJ.out; rw [crashed_plain (by omega), ← this])); clear PLAIN
          go_wp2
          go_end0
          first | exact EP.out | (have e := EP.out; simp only [Nat.add_zero] at e; exact e) | (have e := EP.out; simp only [Int.natCast_add] at e; exact e)
        · have EP := Lib.hid (PLAIN.out (by have := HJ.out; rw [crashed_plain (by omega), ← this])); clear PLAIN
          go_wp2
          go_end0
          first | exact EP.out | (have e := EP.out; simp only [Nat.add_zero] at e; exact e) | (have e := EP.out; simp only [Int.natCast_add] at e; exact e)
        · clear PLAIN
          obtain ⟨t, rfl⟩ : ∃ t : Nat, bit = t := ⟨bit.toNat, by omega⟩
          obtain ⟨n, hn⟩ : ∃ n, s + j = n + 1 := ⟨s + j - 1, by omega⟩
          rw [hn] at HO HL H8 ⊢
          obtain ⟨g, rfl⟩ : ∃ g, a' = some ⟨g, 0, none⟩ := by
            rcases HO.out.2 with ⟨_, h⟩ | ⟨g, _, _, h, _⟩
            · omega
            · injection h with h; exact ⟨g, h⟩
          obtain ⟨L, hLe⟩ : ∃ L, L = l.take (n + 1) := ⟨_, rfl⟩
          rw [← hLe] at HO HL H8
          have hx := getD_lt H8.out n
          obtain ⟨x, hxe⟩ : ∃ x, x = L.getD n 0 := ⟨_, rfl⟩
          rw [← hxe] at hx
          have cx := HO.out.cellAt n (by omega)
          rw [getD_map_u8v (by have := HL.out; omega), ← hxe] at cx
          unfold u8v at cx
          have fx := HO.out.frozenAt n
          have hfl := flip_byte x t hx (by omega)
          have hfe := hfl.1
          have HX8 := Lib.hid hfl.2; clear hfl
          have hnb : n + 1 ≤ 16777216 := by omega
          have hgm : g ≠ m := by
            have h1 := (HO.out.lt g rfl).1
            have h2 := HM.out.lt
            omega
          have hsb : IntKind.i64.wrap (((n + 1 : Nat) : Int) - 1) = (n : Int) := by rw [show (((n + 1 : Nat) : Int) - 1) = (n : Int) by omega]; exact IntWalk.i64_in _ (by omega)
          have hlt1 : decide ((n : Int) < ((n + 1 : Nat) : Int)) = true := by simp; omega
          have HXE := Lib.hid hxe; clear hxe
          have HLE := Lib.hid hLe; clear hLe
          have HN := Lib.hid hn; clear hn
          go_wp2
          go_region
          obtain ⟨W2, hW2⟩ : ∃ W2, W2 = (wc.setCell ⟨g, n, none⟩ (.int .u8 ((x ^^^ 2 ^ t : Nat) : Int))).drew := ⟨_, rfl⟩
          rw [← hW2]
          have hl := HL.out
          have hfset : flipLast L t = L.set n (x ^^^ 2 ^ t) := by
            rw [HXE.out]
            have := flipLast_set L t (by omega)
            rw [hl] at this
            exact this.symm
          have HO2 : Hid (W2.ownsRow w.heap.size 5 1 (.slice (some ⟨g, 0, none⟩) (n + 1) cap') (n + 1) ((flipLast L t).map u8v)) := by
            rw [hfset, List.map_set, hW2]
            exact (HO.out.stored n (u8v (x ^^^ 2 ^ t))).1
          have HF2 : Hid (Frm [] w W2) := by
            rw [hW2]
            exact (HF.out.setCell (p := ⟨g, n, none⟩) (.inr (HO.out.lt g rfl).1) _).drew
          have h82 : ∀ c ∈ flipLast L t, c < 256 := by
            intro c hc
            rw [hfset] at hc
            rcases List.mem_or_eq_of_mem_set hc with h | h
            · exact H8.out c h
            · rw [h]; exact HX8.out
          have hfl2 : (flipLast L t).length = n + 1 := by rw [hfset, List.length_set, hl]
          have EQ : Hid (crashed l s keep t = flipLast L t) := by
            have := HJ.out
            rw [crashed_turn ⟨by omega, by omega, by omega⟩, ← this, HN.out, ← HLE.out]
            exact Lib.hid rfl
          have FIN := Lib.hid (rcrash_end (B := B) (a' := some ⟨g, 0, none⟩) (cap' := cap') (l' := flipLast L t) HM.out HF2.out (by rw [hfl2]; exact HO2.out) h82 HS.out.2.1 (by rw [hfl2]; have := HS.out.2.2.2.1; have := HK.out; have := HN.out; omega) HS.out.2.2.2.2)
          rw [hfl2] at FIN
          have HFL2 := Lib.hid hfl2
          have hmc := HF2.out.whole HM.out (by simp)
          have k1 := hmc.cell 1
          have k2 := hmc.cell 2
          have g1 := hmc.free 1
          have g2 := hmc.free 2
          simp at k1 k2
          clear hmc hW2 hfset h82 hfl2 hl cx fx hlt1 hsb hfe HO HF
          go_wp2
          go_end0
          refine ⟨rfl, ?_⟩
          rw [EQ.out, HFL2.out]
          exact FIN.out
end Go.Proofs.Ytibaloloheakpaa
