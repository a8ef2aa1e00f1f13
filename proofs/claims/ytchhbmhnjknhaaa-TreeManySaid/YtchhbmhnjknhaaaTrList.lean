/- Contract of the program's List. -/
import Derived.Test.YtchhbmhnjknhaaaTrStore
import Derived.Test.YtchhbmhnjknhaaaTrFind
import Derived.Test.YtchhbmhnjknhaaaRtDrop
namespace Go.Proofs.Ytchhbmhnjknhaaa
open Go.RowKit

/-- A node of what is left of the row. -/
theorem Pt.at2 {w : World} {B p : Nat} {F : List Nat} {a : Option Addr} {cap : Nat} {L : List Nx} {qs : List Nat} (h : Pt w B p F a cap L qs) {ix k : Nat} (hk : ix + k < L.length) :
    ∃ b off q, cut1 a cap ix = some ⟨b, off, none⟩ ∧ w.cell? ⟨b, off + k, none⟩ = some (.pointer (some ⟨q, 0, none⟩)) ∧ w.cell? ⟨q, 0, none⟩ = some (.string (L.getD (ix + k) default).t.k) ∧ w.cell? ⟨q, 1, none⟩ = some (.slice (L.getD (ix + k) default).a (L.getD (ix + k) default).t.v.length (L.getD (ix + k) default).c) ∧
      w.cell? ⟨q, 2, none⟩ = some (.int .u64 ((L.getD (ix + k) default).t.ver : Nat)) ∧ w.cell? ⟨q, 3, none⟩ = some (.int .u64 ((L.getD (ix + k) default).t.own : Nat)) ∧ NxOk w (p :: F) (L.getD (ix + k) default) := by
  have hl : ix + k < qs.length := by rw [h.len]; exact hk
  have hn := h.nodes (ix + k) hk
  have hv := h.ptrs.drop (cap := cap) (by rw [List.length_map, h.len]; exact h.lcap) ix
  have hu : ((qs.map ptr).drop ix)[k]? = some (ptr (qs.getD (ix + k) 0)) := by simp [List.getElem?_drop, hl]
  rcases hv with h0 | ⟨b, off, h1, hc⟩
  · rw [h0] at hu; simp at hu
  · exact ⟨b, off, _, h1, hc k _ hu, hn.cell 0, hn.cell 1, hn.cell 2, hn.cell 3, h.ok _ (by simp [hk])⟩
theorem takeWhile_at {α : Type} {f : α → Bool} : ∀ (M : List α) (k : Nat), k ≤ M.length → (∀ d ∈ M.take k, f d = true) → (∀ d, M[k]? = some d → f d = false) → M.takeWhile f = M.take k
  | [], k, _, _, _ => by simp
  | x :: M, 0, _, _, h => by
    have := h x rfl
    simp [this]
  | x :: M, k + 1, hk, h1, h2 => by
    have hx := h1 x (by simp)
    rw [List.takeWhile_cons, if_pos hx, List.take_succ_cons, takeWhile_at M k (by simpa using hk) (fun d hd => h1 d (by simp [hd])) (fun d hd => h2 d (by simpa using hd))]

/-- A list of nodes of the call's own. -/
def ListN (w : World) (p : Nat) (F : List Nat) (M : List Nd) (e : Ending) (w' : World) : Prop :=
  ∃ a' c' Y, nds Y = M ∧ e = .returned (.slice a' Y.length c') ∧ NOwn w' w.heap.size 44 (p :: F) a' c' Y ∧ Frm [] w w'
def PLRel (w : World) (p : Nat) (F : List Nat) (P : ByteArray) (M : List Nd) (u5 u25 : Value) (wr : World) : Prop :=
  ∃ k a' c' Y, k ≤ M.length ∧ u5 = .slice a' k c' ∧ u25 = .int .i64 (k : Nat) ∧ Hid (nds Y = M.take k) ∧ Hid (∀ d ∈ M.take k, pfx P d.k = true) ∧ NOwn wr w.heap.size 44 (p :: F) a' c' Y ∧ Frm [] w wr

set_option maxRecDepth 100000 in
set_option maxHeartbeats 4000000 in
theorem list_any {w : World} {B p : Nat} {F : List Nat} {a : Option Addr} {cap : Nat} {L : List Nx} {qs : List Nat} (P : ByteArray) (h : Pt w B p F a cap L qs) (hS : Srt (nds L)) (hF : ∀ x ∈ F, x < w.heap.size) (hk64 : ∀ d ∈ nds L, d.k.size ≤ 64 ∧ d.v.length ≤ 3840) :
    Calls Try.prog 26 #[.pointer (some ⟨p, 0, none⟩), .string P] w (ListN w p F ((nds L).filter (fun d => pfx P d.k))) := by
  obtain ⟨i0, hi, hz0, hz1, hz2⟩ := info_parts Try.info44
  have HI := Lib.hid hi; clear hi
  have HZ0 := Lib.hid hz0; clear hz0
  have HZ1 := Lib.hid hz1; clear hz1
  have HZ2 := Lib.hid hz2; clear hz2
  have HFI := Lib.hid (find_any P h hS)
  have c0 := h.tree.cell 0
  simp at c0
  have hixl : ixN (nds L) P ≤ L.length := by rw [← nds_len']; exact ixN_le _ _
  obtain ⟨ix, hix⟩ : ∃ ix, ix = ixN (nds L) P := ⟨_, rfl⟩
  have HR := Lib.hid (pfx_list hS P)
  obtain ⟨M, hM⟩ : ∃ M, M = (nds L).drop ix := ⟨_, rfl⟩
  rw [← hix] at HFI hixl HR
  rw [← hM] at HR
  generalize isN (nds L) P = is at HFI
  have hcap := h.lcap
  obtain ⟨n, hn⟩ : ∃ n, n = L.length := ⟨_, rfl⟩
  rw [← hn] at c0 hixl hcap
  have hML : M.length = n - ix := by rw [hM, List.length_drop, nds_len', hn]
  have hcut2 := fun w => run_cut1 (P := Try.prog) Try.underlying63 sizeP w a n cap ix (ix : Int) rfl hixl
  obtain ⟨a2, ha2⟩ : ∃ a2, a2 = cut1 a cap ix := ⟨_, rfl⟩
  obtain ⟨n2, hn2⟩ : ∃ n2, n2 = n - ix := ⟨_, rfl⟩
  obtain ⟨c2, hc2⟩ : ∃ c2, c2 = cap - ix := ⟨_, rfl⟩
  rw [← ha2, ← hn2, ← hc2] at hcut2
  have hn256 : n2 ≤ 256 := by have := h.few; omega
  have HAT : Hid (∀ k, k < n2 → ∃ b off q x, a2 = some ⟨b, off, none⟩ ∧ M[k]? = some x.t ∧ w.cell? ⟨b, off + k, none⟩ = some (.pointer (some ⟨q, 0, none⟩)) ∧ w.cell? ⟨q, 0, none⟩ = some (.string x.t.k) ∧ w.cell? ⟨q, 1, none⟩ = some (.slice x.a x.t.v.length x.c) ∧
      w.cell? ⟨q, 2, none⟩ = some (.int .u64 (x.t.ver : Nat)) ∧ w.cell? ⟨q, 3, none⟩ = some (.int .u64 (x.t.own : Nat)) ∧ NxOk w (p :: F) x ∧ x.t.k.size ≤ 64 ∧ x.t.v.length ≤ 3840) := Lib.hid fun k hk => by
    obtain ⟨b, off, q, e, r0, r1, r2, r3, r4, r5⟩ := h.at2 (ix := ix) (k := k) (by omega)
    have hlt : ix + k < (nds L).length := by rw [nds_len']; omega
    have hm : M[k]? = some (L.getD (ix + k) default).t := by
      rw [hM, List.getElem?_drop, ← nds_getD]; simp [hlt]
    exact ⟨b, off, q, _, by rw [ha2]; exact e, hm, r0, r1, r2, r3, r4, r5, hk64 _ (by rw [← nds_getD]; simp [hlt])⟩
  have HMN : Hid (M.length = n2) := Lib.hid (by omega)
  have HPF : Hid (∀ x ∈ p :: F, x < w.heap.size) := Lib.hid fun x hx => by
    rcases List.mem_cons.1 hx with rfl | h1
    · exact h.tree.lt
    · exact hF x h1
  clear h hS hF hk64 hix hM hn hML ha2 hn2 hc2 hcap
  go_enter Try.func26, Try.ntmps26
  go_wp2_with fail
  (with_reducible refine HFI.out.mono ?_)
  rintro e w' ⟨rfl, rfl⟩
  go_wp2
  go_loopw [5, 25] (fun u5 u25 wr => PLRel w p F P M u5 u25 wr) (fun _ u25 _ => n2 - (intOf u25).toNat)
  case atStart => exact ⟨0, none, 0, [], Nat.zero_le _, rfl, rfl, Lib.hid (by simp [nds]), Lib.hid (by simp), NOwn.nil _ _ _ _, Frm.refl _ _⟩
  case round =>
    obtain ⟨k, a', c', Y, hk, rfl, rfl, HY, HPX, hown, hf⟩ := hrel
    have HO := Lib.hid hown; clear hown
    have HF := Lib.hid hf; clear hf
    have hYk : Y.length = k := by rw [← nds_len', HY.out, List.length_take]; omega
    have HYK := Lib.hid hYk; clear hYk
    have hk2 : k ≤ n2 := by have := HMN.out; omega
    have HK := Lib.hid hk; clear hk
    by_cases hlt : k < n2
    · obtain ⟨b, off, q, x, rfl, hm, r0, r1, r2, r3, r4, r5, hks, hvs⟩ := HAT.out k hlt
      have HM := Lib.hid hm; clear hm
      obtain ⟨⟨xk, xv, xver, xown⟩, xa, xc⟩ := x
      simp only at r1 r2 r3 r4 hks hvs HM
      have ok := r5.keep (F' := p :: F) HF.out (by simp) (fun x h => .inl h)
      have r0 := (HF.out.cell (block_lt_of_cell r0) (by simp)).trans r0
      have r1 := (HF.out.cell (block_lt_of_cell r1) (by simp)).trans r1
      have r2 := (HF.out.cell (block_lt_of_cell r2) (by simp)).trans r2
      have r3 := (HF.out.cell (block_lt_of_cell r3) (by simp)).trans r3
      have r4 := (HF.out.cell (block_lt_of_cell r4) (by simp)).trans r4
      obtain ⟨m, hmm⟩ : ∃ m, m = xv.length := ⟨_, rfl⟩
      rw [← hmm] at r2 hvs
      have HMM := Lib.hid hmm
      have HB := Lib.hid ok.bytes
      have HNU := Lib.hid (prefix_any xk P wr)
      have HAL := Lib.hid (alone_any xk xa m xc xver xown xv wr ok.bytes hmm ok.nil (by omega) (by omega))
      have OK := Lib.hid ok
      clear ok r5 hmm
      cases hp : pfx P xk
      · rw [hp] at HNU
        have hend : M.takeWhile (fun d => pfx P d.k) = M.take k := takeWhile_at M k HK.out HPX.out (fun d hd => by rw [HM.out] at hd; cases hd; exact hp)
        have HE := Lib.hid (show ListN w p F ((nds L).filter (fun d => pfx P d.k)) (.returned (.slice a' k c')) wr from ⟨a', c', Y, by rw [HY.out, ← hend, HR.out], by rw [HYK.out], HO.out, HF.out⟩)
        clear hp hend
        go_wp2_with ((with_reducible refine HNU.out.mono ?_); rintro e w' ⟨rfl, rfl⟩)
        go_ret
        exact HE.out
      · rw [hp] at HNU
        have hpx : ∀ d ∈ M.take (k + 1), pfx P d.k = true := fun d hd => by
          rw [List.take_add_one, HM.out] at hd
          rcases List.mem_append.1 hd with h1 | h1
          · exact HPX.out d h1
          · simp at h1; subst h1; exact hp
        have HPX2 := Lib.hid hpx
        clear hp hpx
        go_wp2_with ((with_reducible refine HNU.out.mono ?_); rintro e w' ⟨rfl, rfl⟩)
        go_wp2_with fail
        (with_reducible refine HAL.out.mono ?_)
        rintro e w5 ⟨av, cv, rfl, hbv, hvnil, hvl, hf5⟩
        obtain ⟨w6, hw6⟩ : ∃ w6, w6 = w5.alloc (.cells #[.string xk, .slice av m cv, .int .u64 (xver : Nat), .int .u64 (xown : Nat)] 44) := ⟨_, rfl⟩
        have hf6 : Frm [] wr w6 := by rw [hw6]; exact hf5.alloc _
        have hv6 : ValsAt w6 (some ⟨w5.heap.size, 0, none⟩) (nc [⟨⟨xk, xv, xver, xown⟩, av, cv⟩]) := by
          rw [hw6, HMM.out]; exact nvals_one w5 ⟨⟨xk, xv, xver, xown⟩, av, cv⟩ _
        have ho6 := HO.out.keep (F' := p :: F) hf6 (by simp) (fun x h => .inl h)
        have hok6 : NOk w6 (blk a' ++ (p :: F)) [⟨⟨xk, xv, xver, xown⟩, av, cv⟩] := fun y hy => by
          simp at hy
          subst hy
          refine ⟨by rw [hw6]; exact ((Frm.refl [] w5).alloc _).bytes hbv (by simp), fun _ x hx hmem => ?_, hvnil, OK.out.ver, OK.out.own, OK.out.key⟩
          have h1 := hvl x hx
          rcases List.mem_append.1 hmem with h | h
          · have := (HO.out.blk_lt _ h).2; omega
          · have := HPF.out _ h; have := HF.out.size; omega
        have hown6 := ho6.own
        rw [HYK.out] at hown6
        have HO6 := Lib.hid ho6
        have HW6 := Lib.hid hown6
        have HV6 := Lib.hid hv6
        have HK6 := Lib.hid hok6
        have HF6 := Lib.hid (HF.out.trans hf6 (U := []) (by simp) (by simp))
        have HWW := Lib.hid hw6
        have hfit1 : k + 1 ≤ 1000000000 := by omega
        clear hw6 hf6 hv6 ho6 hok6 hown6 hbv hvnil hvl hf5 HAL HNU
        go_wp2_with (at_builtin; rw [← HWW.out]; refine wpList_appS (by rfl) (.tmp 36) (.tmp 41) 27 rfl w.heap.size 44 i0 (.agg #[.string ⟨#[]⟩, .slice none 0 0, .int .u64 0, .int .u64 0]) 4 56 Try.underlying27 HI.out HZ0.out rfl (by decide) HZ1.out HZ2.out (by decide) (.slice a' k c') k _ rfl HW6.out _ 1 1 _ rfl HV6.out rfl (nc_one _) (fun h => by cases h) hfit1 HF6.out.size ?_)
        intro a7 c7 w7 happ
        obtain ⟨g1, g2, g3, g4⟩ := HO6.out.app HYK.out.symm HK6.out rfl (fun x hx => Nat.lt_of_lt_of_le (HPF.out x hx) HF6.out.size) happ
        have hf7 := HF6.out.trans g2 (U := []) (by simp) (fun x hx => .inr (HO6.out.blk_lt x hx).1)
        have HREL := Lib.hid (show PLRel w p F P M (.slice a7 (k + 1) c7) (.int .i64 ((k + 1 : Nat) : Int)) w7 from ⟨k + 1, a7, c7, _, by have := HMN.out; omega, rfl, rfl, Lib.hid (by rw [List.take_add_one, HM.out, ← HY.out]; simp [nds]), HPX2, g1, hf7⟩)
        clear happ g1 g2 g3 g4 hf7
        go_wp2
        go_roundw
        case rel => exact HREL.out
        case measure => simp [intOf]; omega
    · obtain rfl : k = n2 := by omega
      have hend : M.takeWhile (fun d => pfx P d.k) = M.take k := takeWhile_at M k HK.out HPX.out (fun d hd => by rw [List.getElem?_eq_none (by have := HMN.out; omega)] at hd; cases hd)
      have HE := Lib.hid (show ListN w p F ((nds L).filter (fun d => pfx P d.k)) (.returned (.slice a' k c')) wr from ⟨a', c', Y, by rw [HY.out, ← hend, HR.out], by rw [HYK.out], HO.out, HF.out⟩)
      clear hend
      go_wp2
      go_ret
      exact HE.out
end Go.Proofs.Ytchhbmhnjknhaaa
