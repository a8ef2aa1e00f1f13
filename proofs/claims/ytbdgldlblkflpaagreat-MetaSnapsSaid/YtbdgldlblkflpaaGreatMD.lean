/- Contracts and mathematics that the proofs of this seat stand on: TrList, TrPutNew, TrPutOld, TrDrop, RtDel, RtList, RtPut, RtPut2, RtPut3, TrAlike, TrRight, LsMath, LsCalls, RbAt, BkBase, BkFind, MtLive, MtMath. -/
import Derived.Test.YtbdgldlblkflpaaGreatMC
import Derived.Deep.RegionLaw
import Derived.Test.YtbdgldlblkflpaaGreatMA
import Derived.WalkLawsBesides
import Derived.IntWalk
import Derived.Deep.QuietTactic
import Derived.BigQuiet
import Derived.WalkKit
import Derived.Outline
/- Contract of the program's List. -/
namespace Go.Proofs.YtbdgldlblkflpaaGreat
open Go.RowKit
set_option maxRecDepth 100000

/-- A node of what is left of the row. -/
theorem Pt.at2 {w : World} {B p : Nat} {F : List Nat} {a : Option Addr} {cap : Nat} {L : List Nx} {qs : List Nat} (h : Pt w B p F a cap L qs) {ix k : Nat} (hk : ix + k < L.length) :
    ∃ b off q, cut1 a cap ix = some ⟨b, off, none⟩ ∧ w.cell? ⟨b, off + k, none⟩ = some (.pointer (some ⟨q, 0, none⟩)) ∧ w.cell? ⟨q, 0, none⟩ = some (.string (L.getD (ix + k) default).t.k) ∧ w.cell? ⟨q, 1, none⟩ = some (.slice (L.getD (ix + k) default).a (L.getD (ix + k) default).t.v.length (L.getD (ix + k) default).c) ∧
      w.cell? ⟨q, 2, none⟩ = some (.int .u64 ((L.getD (ix + k) default).t.ver : Nat)) ∧ w.cell? ⟨q, 3, none⟩ = some (.int .u64 ((L.getD (ix + k) default).t.own : Nat)) ∧ NxOk w (p :: F) (L.getD (ix + k) default) := by
  have hl : ix + k < qs.length := by rw [h.len]; exact hk
  have hn := h.nodes (ix + k) hk
  have hv := h.ptrs.drop (cap := cap) (by rw [List.length_map, h.len]; exact h.lcap) ix
  have hu : ((qs.map ptr).drop ix)[k]? = some (ptr (qs.getD (ix + k) 0)) := by simp [List.getElem?_drop, hl]
  rcases hv with h0 | ⟨b, off, h1, hc⟩
  · rw [h0] at hu; simp at hu
  · exact ⟨b, off, _, h1, hc k _ hu, hn.cell 0, hn.cell 1, hn.cell 2, hn.cell 3, h.ok _ (by simp [hk])⟩
theorem takeWhile_at {α : Type} {f : α → Bool} : ∀ (M : List α) (k : Nat), k ≤ M.length → (∀ d ∈ M.take k, f d = true) → (∀ d, M[k]? = some d → f d = false) → M.takeWhile f = M.take k
  | [], k, _, _, _ => by simp
  | x :: M, 0, _, _, h => by
    have := h x rfl
    simp [this]
  | x :: M, k + 1, hk, h1, h2 => by
    have hx := h1 x (by simp)
    rw [List.takeWhile_cons, if_pos hx, List.take_succ_cons, takeWhile_at M k (by simpa using hk) (fun d hd => h1 d (by simp [hd])) (fun d hd => h2 d (by simpa using hd))]

/-- A list of nodes of the call's own. -/
def ListN (w : World) (p : Nat) (F : List Nat) (M : List Nd) (e : Ending) (w' : World) : Prop :=
  ∃ a' c' Y, nds Y = M ∧ e = .returned (.slice a' Y.length c') ∧ NOwn w' w.heap.size 59 (p :: F) a' c' Y ∧ Frm [] w w'
def PLRel (w : World) (p : Nat) (F : List Nat) (P : ByteArray) (M : List Nd) (u5 u25 : Value) (wr : World) : Prop :=
  ∃ k a' c' Y, k ≤ M.length ∧ u5 = .slice a' k c' ∧ u25 = .int .i64 (k : Nat) ∧ Hid (nds Y = M.take k) ∧ Hid (∀ d ∈ M.take k, pfx P d.k = true) ∧ NOwn wr w.heap.size 59 (p :: F) a' c' Y ∧ Frm [] w wr

set_option maxRecDepth 100000 in
set_option maxHeartbeats 4000000 in
theorem list_any {w : World} {B p : Nat} {F : List Nat} {a : Option Addr} {cap : Nat} {L : List Nx} {qs : List Nat} (P : ByteArray) (h : Pt w B p F a cap L qs) (hS : Srt (nds L)) (hF : ∀ x ∈ F, x < w.heap.size) (hk64 : ∀ d ∈ nds L, d.k.size ≤ 64 ∧ d.v.length ≤ 3840) :
    Calls Tryz.prog 60 #[.pointer (some ⟨p, 0, none⟩), .string P] w (ListN w p F ((nds L).filter (fun d => pfx P d.k))) := by
  obtain ⟨i0, hi, hz0, hz1, hz2⟩ := info_parts Tryz.info59
  have HI := Lib.hid hi; clear hi
  have HZ0 := Lib.hid hz0; clear hz0
  have HZ1 := Lib.hid hz1; clear hz1
  have HZ2 := Lib.hid hz2; clear hz2
  have HFI := Lib.hid (find_any P h hS)
  have c0 := h.tree.cell 0
  simp at c0
  have hixl : ixN (nds L) P ≤ L.length := by rw [← nds_len']; exact ixN_le _ _
  obtain ⟨ix, hix⟩ : ∃ ix, ix = ixN (nds L) P := ⟨_, rfl⟩
  have HR := Lib.hid (pfx_list hS P)
  obtain ⟨M, hM⟩ : ∃ M, M = (nds L).drop ix := ⟨_, rfl⟩
  rw [← hix] at HFI hixl HR
  rw [← hM] at HR
  generalize isN (nds L) P = is at HFI
  have hcap := h.lcap
  obtain ⟨n, hn⟩ : ∃ n, n = L.length := ⟨_, rfl⟩
  rw [← hn] at c0 hixl hcap
  have hML : M.length = n - ix := by rw [hM, List.length_drop, nds_len', hn]
  have hcut2 := fun w => run_cut1 (P := Tryz.prog) Tryz.underlying139 sizeP w a n cap ix (ix : Int) rfl hixl
  obtain ⟨a2, ha2⟩ : ∃ a2, a2 = cut1 a cap ix := ⟨_, rfl⟩
  obtain ⟨n2, hn2⟩ : ∃ n2, n2 = n - ix := ⟨_, rfl⟩
  obtain ⟨c2, hc2⟩ : ∃ c2, c2 = cap - ix := ⟨_, rfl⟩
  rw [← ha2, ← hn2, ← hc2] at hcut2
  have hn256 : n2 ≤ 256 := by have := h.few; omega
  have HAT : Hid (∀ k, k < n2 → ∃ b off q x, a2 = some ⟨b, off, none⟩ ∧ M[k]? = some x.t ∧ w.cell? ⟨b, off + k, none⟩ = some (.pointer (some ⟨q, 0, none⟩)) ∧ w.cell? ⟨q, 0, none⟩ = some (.string x.t.k) ∧ w.cell? ⟨q, 1, none⟩ = some (.slice x.a x.t.v.length x.c) ∧
      w.cell? ⟨q, 2, none⟩ = some (.int .u64 (x.t.ver : Nat)) ∧ w.cell? ⟨q, 3, none⟩ = some (.int .u64 (x.t.own : Nat)) ∧ NxOk w (p :: F) x ∧ x.t.k.size ≤ 64 ∧ x.t.v.length ≤ 3840) := Lib.hid fun k hk => by
    obtain ⟨b, off, q, e, r0, r1, r2, r3, r4, r5⟩ := h.at2 (ix := ix) (k := k) (by omega)
    have hlt : ix + k < (nds L).length := by rw [nds_len']; omega
    have hm : M[k]? = some (L.getD (ix + k) default).t := by
      rw [hM, List.getElem?_drop, ← nds_getD]; simp [hlt]
    exact ⟨b, off, q, _, by rw [ha2]; exact e, hm, r0, r1, r2, r3, r4, r5, hk64 _ (by rw [← nds_getD]; simp [hlt])⟩
  have HMN : Hid (M.length = n2) := Lib.hid (by omega)
  have HPF : Hid (∀ x ∈ p :: F, x < w.heap.size) := Lib.hid fun x hx => by
    rcases List.mem_cons.1 hx with rfl | h1
    · exact h.tree.lt
    · exact hF x h1
  clear h hS hF hk64 hix hM hn hML ha2 hn2 hc2 hcap
  go_enter Tryz.func60, Tryz.ntmps60
  go_wp2_with fail
  (with_reducible refine HFI.out.mono ?_)
  rintro e w' ⟨rfl, rfl⟩
  go_wp2
  go_loopw [5, 25] (fun u5 u25 wr => PLRel w p F P M u5 u25 wr) (fun _ u25 _ => n2 - (intOf u25).toNat)
  case atStart => exact ⟨0, none, 0, [], Nat.zero_le _, rfl, rfl, Lib.hid (by simp [nds]), Lib.hid (by simp), NOwn.nil _ _ _ _, Frm.refl _ _⟩
  case round =>
    obtain ⟨k, a', c', Y, hk, rfl, rfl, HY, HPX, hown, hf⟩ := hrel
    have HO := Lib.hid hown; clear hown
    have HF := Lib.hid hf; clear hf
    have hYk : Y.length = k := by rw [← nds_len', HY.out, List.length_take]; omega
    have HYK := Lib.hid hYk; clear hYk
    have hk2 : k ≤ n2 := by have := HMN.out; omega
    have HK := Lib.hid hk; clear hk
    by_cases hlt : k < n2
    · obtain ⟨b, off, q, x, rfl, hm, r0, r1, r2, r3, r4, r5, hks, hvs⟩ := HAT.out k hlt
      have HM := Lib.hid hm; clear hm
      obtain ⟨⟨xk, xv, xver, xown⟩, xa, xc⟩ := x
      simp only at r1 r2 r3 r4 hks hvs HM
      have ok := r5.keep (F' := p :: F) HF.out (by simp) (fun x h => .inl h)
      have r0 := (HF.out.cell (block_lt_of_cell r0) (by simp)).trans r0
      have r1 := (HF.out.cell (block_lt_of_cell r1) (by simp)).trans r1
      have r2 := (HF.out.cell (block_lt_of_cell r2) (by simp)).trans r2
      have r3 := (HF.out.cell (block_lt_of_cell r3) (by simp)).trans r3
      have r4 := (HF.out.cell (block_lt_of_cell r4) (by simp)).trans r4
      obtain ⟨m, hmm⟩ : ∃ m, m = xv.length := ⟨_, rfl⟩
      rw [← hmm] at r2 hvs
      have HMM := Lib.hid hmm
      have HB := Lib.hid ok.bytes
      have HNU := Lib.hid (prefix_any xk P wr)
      have HAL := Lib.hid (alone_any xk xa m xc xver xown xv wr ok.bytes hmm ok.nil (by omega) (by omega))
      have OK := Lib.hid ok
      clear ok r5 hmm
      cases hp : pfx P xk
      · rw [hp] at HNU
        have hend : M.takeWhile (fun d => pfx P d.k) = M.take k := takeWhile_at M k HK.out HPX.out (fun d hd => by rw [HM.out] at hd; cases hd; exact hp)
        have HE := Lib.hid (show ListN w p F ((nds L).filter (fun d => pfx P d.k)) (.returned (.slice a' k c')) wr from ⟨a', c', Y, by rw [HY.out, ← hend, HR.out], by rw [HYK.out], HO.out, HF.out⟩)
        clear hp hend
        go_wp2_with ((with_reducible refine HNU.out.mono ?_); rintro e w' ⟨rfl, rfl⟩)
        go_ret
        exact HE.out
      · rw [hp] at HNU
        have hpx : ∀ d ∈ M.take (k + 1), pfx P d.k = true := fun d hd => by
          rw [List.take_add_one, HM.out] at hd
          rcases List.mem_append.1 hd with h1 | h1
          · exact HPX.out d h1
          · simp at h1; subst h1; exact hp
        have HPX2 := Lib.hid hpx
        clear hp hpx
        go_wp2_with ((with_reducible refine HNU.out.mono ?_); rintro e w' ⟨rfl, rfl⟩)
        go_wp2_with fail
        (with_reducible refine HAL.out.mono ?_)
        rintro e w5 ⟨av, cv, rfl, hbv, hvnil, hvl, hf5⟩
        obtain ⟨w6, hw6⟩ : ∃ w6, w6 = w5.alloc (.cells #[.string xk, .slice av m cv, .int .u64 (xver : Nat), .int .u64 (xown : Nat)] 59) := ⟨_, rfl⟩
        have hf6 : Frm [] wr w6 := by rw [hw6]; exact hf5.alloc _
        have hv6 : ValsAt w6 (some ⟨w5.heap.size, 0, none⟩) (nc [⟨⟨xk, xv, xver, xown⟩, av, cv⟩]) := by
          rw [hw6, HMM.out]; exact nvals_one w5 ⟨⟨xk, xv, xver, xown⟩, av, cv⟩ _
        have ho6 := HO.out.keep (F' := p :: F) hf6 (by simp) (fun x h => .inl h)
        have hok6 : NOk w6 (blk a' ++ (p :: F)) [⟨⟨xk, xv, xver, xown⟩, av, cv⟩] := fun y hy => by
          simp at hy
          subst hy
          refine ⟨by rw [hw6]; exact ((Frm.refl [] w5).alloc _).bytes hbv (by simp), fun _ x hx hmem => ?_, hvnil, OK.out.ver, OK.out.own, OK.out.key⟩
          have h1 := hvl x hx
          rcases List.mem_append.1 hmem with h | h
          · have := (HO.out.blk_lt _ h).2; omega
          · have := HPF.out _ h; have := HF.out.size; omega
        have hown6 := ho6.own
        rw [HYK.out] at hown6
        have HO6 := Lib.hid ho6
        have HW6 := Lib.hid hown6
        have HV6 := Lib.hid hv6
        have HK6 := Lib.hid hok6
        have HF6 := Lib.hid (HF.out.trans hf6 (U := []) (by simp) (by simp))
        have HWW := Lib.hid hw6
        have hfit1 : k + 1 ≤ 1000000000 := by omega
        clear hw6 hf6 hv6 ho6 hok6 hown6 hbv hvnil hvl hf5 HAL HNU
        go_wp2_with (at_builtin; rw [← HWW.out]; refine wpList_appS (by rfl) (.tmp 36) (.tmp 41) 39 rfl w.heap.size 59 i0 (.agg #[.string ⟨#[]⟩, .slice none 0 0, .int .u64 0, .int .u64 0]) 4 56 Tryz.underlying39 HI.out HZ0.out rfl (by decide) HZ1.out HZ2.out (by decide) (.slice a' k c') k _ rfl HW6.out _ 1 1 _ rfl HV6.out rfl (nc_one _) (fun h => by cases h) hfit1 HF6.out.size ?_)
        intro a7 c7 w7 happ
        obtain ⟨g1, g2, g3, g4⟩ := HO6.out.app HYK.out.symm HK6.out rfl (fun x hx => Nat.lt_of_lt_of_le (HPF.out x hx) HF6.out.size) happ
        have hf7 := HF6.out.trans g2 (U := []) (by simp) (fun x hx => .inr (HO6.out.blk_lt x hx).1)
        have HREL := Lib.hid (show PLRel w p F P M (.slice a7 (k + 1) c7) (.int .i64 ((k + 1 : Nat) : Int)) w7 from ⟨k + 1, a7, c7, _, by have := HMN.out; omega, rfl, rfl, Lib.hid (by rw [List.take_add_one, HM.out, ← HY.out]; simp [nds]), HPX2, g1, hf7⟩)
        clear happ g1 g2 g3 g4 hf7
        go_wp2
        go_roundw
        case rel => exact HREL.out
        case measure => simp [intOf]; omega
    · obtain rfl : k = n2 := by omega
      have hend : M.takeWhile (fun d => pfx P d.k) = M.take k := takeWhile_at M k HK.out HPX.out (fun d hd => by rw [List.getElem?_eq_none (by have := HMN.out; omega)] at hd; cases hd)
      have HE := Lib.hid (show ListN w p F ((nds L).filter (fun d => pfx P d.k)) (.returned (.slice a' k c')) wr from ⟨a', c', Y, by rw [HY.out, ← hend, HR.out], by rw [HYK.out], HO.out, HF.out⟩)
      clear hend
      go_wp2
      go_ret
      exact HE.out
end Go.Proofs.YtbdgldlblkflpaaGreat
/- Contract of the program's Put of a new key. -/
namespace Go.Proofs.YtbdgldlblkflpaaGreat
open Go.RowKit
set_option maxRecDepth 100000

set_option maxRecDepth 100000 in
set_option maxHeartbeats 4000000 in
theorem put_new {w : World} {B p : Nat} {F : List Nat} {a : Option Addr} {cap : Nat} {L : List Nx} {qs : List Nat} (s : ByteArray) (va : Option Addr) (vn vc : Nat) (v : List Nat) (own ix nv : Nat) (h : Pt w B p F a cap L qs) (hS : Srt (nds L)) (hF : ∀ x ∈ F, x < w.heap.size)
    (hb : Bytes w va v) (hv : vn = v.length) (hvn : va = none → vc = 0) (hl : lenC s.size vn = 0) (hown : own < 18446744073709551616) (hn0 : isN (nds L) s = false) (hfew : L.length < 256) (hix : ix = ixN (nds L) s) (hnv : nv = 1) :
    Calls Tryz.prog 120 #[.pointer (some ⟨p, 0, none⟩), .string s, .slice va vn vc, .int .u64 0, .int .u64 (own : Nat)] w (PtEnd w B p F ((nds L).take ix ++ ⟨s, v, nv, own⟩ :: (nds L).drop (ix)) (.tuple #[.int .u64 (nv : Nat), .int .i64 0])) := by
  have hlen : 1 ≤ s.size ∧ s.size ≤ 64 ∧ vn ≤ 3840 := by
    unfold lenC at hl
    split at hl
    · omega
    · split at hl <;> omega
  obtain ⟨_, hs64, hv38⟩ := hlen
  have HL := Lib.hid (lengths_any s va vn vc w (by omega) (by omega))
  rw [hl] at HL
  have HFI := Lib.hid (find_any s h hS)
  have HUN := Lib.hid (unwanted_any s 0 h)
  have hunw : unwC (nds L) s 0 = 0 := by unfold unwC; rw [if_neg (by rw [hn0]; simp), if_neg (by omega), if_neg (by rw [nds_len']; omega)]
  have his := hn0
  have hixl : ix ≤ L.length := by rw [hix, ← nds_len']; exact ixN_le _ _
  rw [hunw] at HUN
  rw [his] at HFI HUN
  rw [← hix] at HFI HUN
  have hcap : L.length ≤ cap := h.lcap
  have hmcap := h.mcap
  unfold maxLen at hmcap
  have hto : ix ≤ L.length := by omega
  obtain ⟨n, hnn⟩ : ∃ n, n = L.length := ⟨_, rfl⟩
  have hn : n ≤ 256 := by rw [hnn]; exact h.few
  have c0 := h.tree.cell 0
  rw [← hnn] at c0
  simp at c0
  rw [← hnn] at hcap hto
  have HH := Lib.hid h
  have HB := Lib.hid hb
  have HV := Lib.hid hv
  have HN := Lib.hid hnn
  have HFF := Lib.hid hF
  have HOWN := Lib.hid hown
  have HNV : Hid (nv < 18446744073709551616) := Lib.hid (by omega)
  have HAL := Lib.hid (alone_any s va vn vc nv own v w hb hv hvn (by omega) (by omega))
  rw [show ((0 : Nat) : Int) = 0 from rfl] at HUN
  have hnvi : (nv : Int) = 1 := by omega
  rw [hnvi] at HAL
  have hcut1 := fun w => run_head_h (P := Tryz.prog) Tryz.underlying139 sizeP w a n cap ix (by omega)
  have hcut2 := fun w => run_cut1 (P := Tryz.prog) Tryz.underlying139 sizeP w a n cap (ix) (ix : Int) (by omega) hto
  obtain ⟨a2, ha2⟩ : ∃ a2, a2 = cut1 a cap (ix) := ⟨_, rfl⟩
  obtain ⟨n2, hn2⟩ : ∃ n2, n2 = n - (ix) := ⟨_, rfl⟩
  obtain ⟨c2, hc2⟩ : ∃ c2, c2 = cap - (ix) := ⟨_, rfl⟩
  rw [← ha2, ← hn2, ← hc2] at hcut2
  have HP1 : Hid (PSlIn w ⟨a, cap, (qs.map ptr).take ix⟩) := Lib.hid ⟨h.ptrs.take ix, h.nil, by simp [h.len, ← hnn]; omega, by show cap ≤ _; omega, fun u hu => ptr_one qs u (List.mem_of_mem_take hu)⟩
  have HP2 : Hid (PSlIn w ⟨a2, c2, (qs.map ptr).drop (ix)⟩) := Lib.hid ⟨by rw [ha2]; exact h.ptrs.drop (by simp [h.len, ← hnn]; omega) _, fun h0 => by rw [hc2]; exact cut1_none h.nil (by rw [← ha2]; exact h0), by simp [h.len, ← hnn]; omega, by show c2 ≤ _; omega, fun u hu => ptr_one qs u (List.mem_of_mem_drop hu)⟩
  have HL1 : Hid (((qs.map ptr).take ix).length = ix) := Lib.hid (by simp [h.len, ← hnn]; omega)
  have HL2 : Hid (((qs.map ptr).drop (ix)).length = n2) := Lib.hid (by simp [h.len, ← hnn]; omega)
  have hn2n : ix + 1 + n2 ≤ n + 1 := by omega
  have HCNT : Hid (ix + 1 + n2 ≤ 256) := Lib.hid (by omega)
  have HN2 : Hid (n2 = n - (ix)) := Lib.hid hn2
  clear h hS hF hb hv hvn hl hown hnn ha2 hc2 hn2 his hunw hix hn0 hfew hnvi hnv
  go_enter Tryz.func120, Tryz.ntmps120
  go_wp2_with fail
  (with_reducible refine HL.out.mono ?_)
  rintro e w' ⟨rfl, rfl⟩
  go_wp2_with fail
  (with_reducible refine HFI.out.mono ?_)
  rintro e w' ⟨rfl, rfl⟩
  go_wp2_with fail
  (with_reducible refine HUN.out.mono ?_)
  rintro e w' ⟨rfl, rfl⟩
  go_wp2_with fail
  (with_reducible refine HAL.out.mono ?_)
  rintro e w5 ⟨av, cv, rfl, hbv, hvnil, hvl, hf5⟩
  clear HL HFI HUN HAL
  obtain ⟨q, hq⟩ : ∃ q, q = w5.heap.size := ⟨_, rfl⟩
  obtain ⟨w6, hw6⟩ : ∃ w6, w6 = w5.alloc (.cells #[.string s, .slice av vn cv, .int .u64 (nv : Nat), .int .u64 (own : Nat)] 59) := ⟨_, rfl⟩
  have hW6 := Whole.made w5 59 #[.string s, .slice av vn cv, .int .u64 (nv : Nat), .int .u64 (own : Nat)]
  rw [← hw6, ← hq] at hW6
  have hf6 : Frm [] w w6 := by rw [hw6]; exact hf5.alloc _
  have hbv6 : Bytes w6 av v := by rw [hw6]; exact ((Frm.refl [] w5).alloc _).bytes hbv (by simp)
  have hq6 : w.heap.size ≤ q := by rw [hq]; exact hf5.size
  have c6 := (hf6.whole HH.out.tree (by simp)).cell 0
  rw [← HN.out] at c6
  simp at c6
  have HQ := Lib.hid hq
  have HW6 := Lib.hid hw6
  have HX6 := Lib.hid hW6
  have HF6 := Lib.hid hf6
  have HBV := Lib.hid hbv6
  have HVN := Lib.hid hvnil
  have HVL := Lib.hid hvl
  clear hbv hvnil hvl hf5 hq hw6 hW6 hf6 hbv6
  go_wp2
  rw [← HW6.out, ← HQ.out]
  obtain ⟨w7, hw7⟩ : ∃ w7, w7 = ((w6.alloc (.cells #[.pointer (some ⟨q, 0, none⟩)] 138)).alloc (.cells #[.slice a ix cap, .slice (some ⟨w6.heap.size, 0, none⟩) 1 1, .slice a2 n2 c2] 139)).drew := ⟨_, rfl⟩
  have hf67 : Frm [] w6 w7 := by rw [hw7]; exact (((Frm.refl [] w6).alloc _).alloc _).drew
  have hlit : Whole w7 w6.heap.size 138 #[ptr q] := by
    have h1 := Whole.made w6 138 #[ptr q]
    rw [hw7]; exact (h1.alloc _).drew
  have hsls : PSlsIn w7 (w6.heap.size + 1) [⟨a, cap, (qs.map ptr).take ix⟩, ⟨some ⟨w6.heap.size, 0, none⟩, 1, [ptr q]⟩, ⟨a2, c2, (qs.map ptr).drop (ix)⟩] := by
    have h1 := (Whole.made (w6.alloc (.cells #[.pointer (some ⟨q, 0, none⟩)] 138)) 139 #[.slice a ix cap, .slice (some ⟨w6.heap.size, 0, none⟩) 1 1, .slice a2 n2 c2]).drew
    rw [← hw7] at h1
    have e1 : (w6.alloc (.cells #[.pointer (some ⟨q, 0, none⟩)] 138)).heap.size = w6.heap.size + 1 := by simp
    rw [e1] at h1
    have hff := HF6.out.trans hf67 (U := []) (by simp) (by simp)
    have s1 : PSlIn w7 ⟨some ⟨w6.heap.size, 0, none⟩, 1, [ptr q]⟩ := by
      refine ⟨.inr ⟨_, _, rfl, fun i u hu => ?_⟩, (fun h => by cases h), Nat.le_refl _, (show (1 : Nat) ≤ _ by omega), fun u hu => by simp at hu; subst hu; rfl⟩
      rw [hlit.cell, Nat.zero_add]; simpa using hu
    intro k hk
    have hk3 : k = 0 ∨ k = 1 ∨ k = 2 := by simp at hk; omega
    rcases hk3 with rfl | rfl | rfl
    · exact ⟨by rw [h1.cell]; simp [List.getD]; have h2 := HL1.out; rw [List.length_take, List.length_map] at h2; omega, HP1.out.keep hff⟩
    · exact ⟨by rw [h1.cell]; rfl, s1⟩
    · exact ⟨by rw [h1.cell]; simp [List.getD]; have h2 := HL2.out; rw [List.length_drop, List.length_map] at h2; omega, HP2.out.keep hff⟩
  have hall : pall [⟨a, cap, (qs.map ptr).take ix⟩, ⟨some ⟨w6.heap.size, 0, none⟩, 1, [ptr q]⟩, ⟨a2, c2, (qs.map ptr).drop (ix)⟩] = (qs.take ix ++ q :: qs.drop (ix)).map ptr := by
    simp [pall, List.map_take, List.map_drop]
  have hcat := concatP_any hsls (n := 3) rfl (by omega) (by rw [hall]; simp [HH.out.len, ← HN.out]; omega)
  rw [hall] at hcat
  have hlq : ((qs.take ix ++ q :: qs.drop (ix)).map ptr).length = ix + 1 + n2 := by
    have h1 := HL1.out; have h2 := HL2.out
    simp at h1 h2 ⊢
    omega
  have HLQ := Lib.hid hlq
  have HF7 := Lib.hid (HF6.out.trans hf67 (U := []) (by simp) (by simp))
  have HLX := Lib.hid (HX6.out.lt)
  have HF67 := Lib.hid hf67
  have c7 := ((HF6.out.alloc (.cells #[.pointer (some ⟨q, 0, none⟩)] 138)).whole HH.out.tree (by simp)).cell 0
  rw [← HN.out] at c7
  simp at c7
  rw [hw7] at hcat
  have HCA := Lib.hid hcat
  have HW7 := Lib.hid hw7
  clear hcat hlq hall hsls hlit hf67 hw7
  go_region_law (go_simp; go_at_call 122; (with_reducible refine HCA.out.mono ?_); rintro e w9 ⟨a9, c9, rfl, ho9, hf9⟩; rw [← HW7.out] at hf9 ho9; rw [HLQ.out]; have hf79 := Lib.hid (HF7.out.trans hf9 (U := []) (by simp) (by simp)); have hO9 := Lib.hid ho9; have hF9 := Lib.hid hf9; have c9p := (hf79.out.whole HH.out.tree (by simp)).cell 0; rw [← HN.out] at c9p; simp at c9p; have f9p := (hf79.out.whole HH.out.tree (by simp)).free 0; clear ho9 hf9)
  all_goals
    have hp79 := HF67.out.trans hF9.out (U := []) (by simp) (by simp)
    have hx9 := hp79.whole HX6.out (by simp)
    have hqp : q ≠ p := by have := HH.out.tree.lt; omega
    have hdone := put_done ix (ix) ⟨⟨s, v, nv, own⟩, av, cv⟩ q HH.out HFF.out hf79.out (by rw [HV.out] at hx9; exact hx9) ⟨hp79.bytes HBV.out (by simp), fun _ x hx hm => (by
      have h1 := HVL.out x hx
      rcases List.mem_cons.1 hm with h2 | h2
      · have := HH.out.tree.lt; omega
      · have := HFF.out _ h2; omega), HVN.out, HNV.out, HOWN.out, (by show s.size ≤ _; omega)⟩ hq6 (OwnP.low hO9.out HF7.out.size) (ix + 1 + n2) (by have := HLQ.out; rwa [List.length_map] at this) HCNT.out
    have HST := Lib.hid hdone
    have cz := (hx9.other (p := ⟨p, 0, none⟩) hqp (.slice a9 (ix + 1 + n2) c9)).cell 2
    simp at cz
    clear hdone hx9 hp79 hqp hf79 hO9 hF9
    go_wp2
    go_ret2
    exact ⟨rfl, HST.out⟩

end Go.Proofs.YtbdgldlblkflpaaGreat
/- Contract of the program's Put of a key that is there. -/
namespace Go.Proofs.YtbdgldlblkflpaaGreat
open Go.RowKit
set_option maxRecDepth 100000

set_option maxRecDepth 100000 in
set_option maxHeartbeats 4000000 in
theorem put_old {w : World} {B p : Nat} {F : List Nat} {a : Option Addr} {cap : Nat} {L : List Nx} {qs : List Nat} (s : ByteArray) (va : Option Addr) (vn vc : Nat) (v : List Nat) (want own own0 ix nv : Nat) (h : Pt w B p F a cap L qs) (hS : Srt (nds L)) (hF : ∀ x ∈ F, x < w.heap.size)
    (hb : Bytes w va v) (hv : vn = v.length) (hvn : va = none → vc = 0) (hl : lenC s.size vn = 0) (hown : own < 18446744073709551616) (hn0 : isN (nds L) s = true) (hw0 : want ≠ 0) (hver : ((nds L).getD (ixN (nds L) s) default).ver = want) (ho : ((nds L).getD (ixN (nds L) s) default).own = own) (hix : ix = ixN (nds L) s) (hnv : nv = (want + 1) % 18446744073709551616) :
    Calls Tryz.prog 120 #[.pointer (some ⟨p, 0, none⟩), .string s, .slice va vn vc, .int .u64 (want : Nat), .int .u64 (own0 : Nat)] w (PtEnd w B p F ((nds L).take ix ++ ⟨s, v, nv, own⟩ :: (nds L).drop (ix + 1)) (.tuple #[.int .u64 (nv : Nat), .int .i64 0])) := by
  have hlen : 1 ≤ s.size ∧ s.size ≤ 64 ∧ vn ≤ 3840 := by
    unfold lenC at hl
    split at hl
    · omega
    · split at hl <;> omega
  obtain ⟨_, hs64, hv38⟩ := hlen
  have HL := Lib.hid (lengths_any s va vn vc w (by omega) (by omega))
  rw [hl] at HL
  have HFI := Lib.hid (find_any s h hS)
  have HUN := Lib.hid (unwanted_any s want h)
  have hunw : unwC (nds L) s want = 0 := by unfold unwC; rw [if_pos hn0, if_neg hw0, if_neg (by rw [hver]; simp)]
  have his := hn0
  have hixl : ix < L.length := by
    obtain ⟨_, _, _, _, h4⟩ := isN_split hn0
    rw [nds_len', ← hix] at h4; exact h4
  obtain ⟨b, off, q0, rfl, r0, hq0, _, _, r3, r4, _⟩ := h.at hixl
  have hown4 : (L.getD ix default).t.own = own := by rw [← nds_getD, hix]; exact ho
  rw [hown4] at r4
  have hwi0 : ((want : Int) + 1) % 18446744073709551616 = (nv : Int) := by omega
  have hwi : IntKind.u64.wrap ((want : Int) + 1) = (nv : Int) := by rw [← hwi0]; simp [IntKind.wrap, IntKind.bits, IntKind.signed]
  rw [hunw] at HUN
  rw [his] at HFI HUN
  rw [← hix] at HFI HUN
  have hcap : L.length ≤ cap := h.lcap
  have hmcap := h.mcap
  unfold maxLen at hmcap
  have hto : ix + 1 ≤ L.length := by omega
  obtain ⟨n, hnn⟩ : ∃ n, n = L.length := ⟨_, rfl⟩
  have hn : n ≤ 256 := by rw [hnn]; exact h.few
  have c0 := h.tree.cell 0
  rw [← hnn] at c0
  simp at c0
  rw [← hnn] at hcap hto
  have HH := Lib.hid h
  have HB := Lib.hid hb
  have HV := Lib.hid hv
  have HN := Lib.hid hnn
  have HFF := Lib.hid hF
  have HOWN := Lib.hid hown
  have HNV : Hid (nv < 18446744073709551616) := Lib.hid (by omega)
  have HAL := Lib.hid (alone_any s va vn vc nv own v w hb hv hvn (by omega) (by omega))
  have hsi : IntKind.i64.wrap ((ix : Int) + 1) = (ix : Int) + 1 := IntWalk.i64_in _ (by have := h.few; omega)
  have hcut1 := fun w => run_head_h (P := Tryz.prog) Tryz.underlying139 sizeP w (some ⟨b, off, none⟩) n cap ix (by omega)
  have hcut2 := fun w => run_cut1 (P := Tryz.prog) Tryz.underlying139 sizeP w (some ⟨b, off, none⟩) n cap (ix + 1) ((ix : Int) + 1) (by omega) hto
  obtain ⟨a2, ha2⟩ : ∃ a2, a2 = cut1 (some ⟨b, off, none⟩) cap (ix + 1) := ⟨_, rfl⟩
  obtain ⟨n2, hn2⟩ : ∃ n2, n2 = n - (ix + 1) := ⟨_, rfl⟩
  obtain ⟨c2, hc2⟩ : ∃ c2, c2 = cap - (ix + 1) := ⟨_, rfl⟩
  rw [← ha2, ← hn2, ← hc2] at hcut2
  have HP1 : Hid (PSlIn w ⟨(some ⟨b, off, none⟩), cap, (qs.map ptr).take ix⟩) := Lib.hid ⟨h.ptrs.take ix, h.nil, by simp [h.len, ← hnn]; omega, by show cap ≤ _; omega, fun u hu => ptr_one qs u (List.mem_of_mem_take hu)⟩
  have HP2 : Hid (PSlIn w ⟨a2, c2, (qs.map ptr).drop (ix + 1)⟩) := Lib.hid ⟨by rw [ha2]; exact h.ptrs.drop (by simp [h.len, ← hnn]; omega) _, fun h0 => by rw [hc2]; exact cut1_none h.nil (by rw [← ha2]; exact h0), by simp [h.len, ← hnn]; omega, by show c2 ≤ _; omega, fun u hu => ptr_one qs u (List.mem_of_mem_drop hu)⟩
  have HL1 : Hid (((qs.map ptr).take ix).length = ix) := Lib.hid (by simp [h.len, ← hnn]; omega)
  have HL2 : Hid (((qs.map ptr).drop (ix + 1)).length = n2) := Lib.hid (by simp [h.len, ← hnn]; omega)
  have hn2n : ix + 1 + n2 ≤ n + 1 := by omega
  have HCNT : Hid (ix + 1 + n2 ≤ 256) := Lib.hid (by omega)
  have HN2 : Hid (n2 = n - (ix + 1)) := Lib.hid hn2
  clear h hS hF hb hv hvn hl hown hnn ha2 hc2 hn2 his hunw hix hn0 hw0 hver ho hnv hown4 r3 hq0 hwi0
  go_enter Tryz.func120, Tryz.ntmps120
  go_wp2_with fail
  (with_reducible refine HL.out.mono ?_)
  rintro e w' ⟨rfl, rfl⟩
  go_wp2_with fail
  (with_reducible refine HFI.out.mono ?_)
  rintro e w' ⟨rfl, rfl⟩
  go_wp2_with fail
  (with_reducible refine HUN.out.mono ?_)
  rintro e w' ⟨rfl, rfl⟩
  go_wp2_with fail
  (with_reducible refine HAL.out.mono ?_)
  rintro e w5 ⟨av, cv, rfl, hbv, hvnil, hvl, hf5⟩
  clear HL HFI HUN HAL
  obtain ⟨q, hq⟩ : ∃ q, q = w5.heap.size := ⟨_, rfl⟩
  obtain ⟨w6, hw6⟩ : ∃ w6, w6 = w5.alloc (.cells #[.string s, .slice av vn cv, .int .u64 (nv : Nat), .int .u64 (own : Nat)] 59) := ⟨_, rfl⟩
  have hW6 := Whole.made w5 59 #[.string s, .slice av vn cv, .int .u64 (nv : Nat), .int .u64 (own : Nat)]
  rw [← hw6, ← hq] at hW6
  have hf6 : Frm [] w w6 := by rw [hw6]; exact hf5.alloc _
  have hbv6 : Bytes w6 av v := by rw [hw6]; exact ((Frm.refl [] w5).alloc _).bytes hbv (by simp)
  have hq6 : w.heap.size ≤ q := by rw [hq]; exact hf5.size
  have c6 := (hf6.whole HH.out.tree (by simp)).cell 0
  rw [← HN.out] at c6
  simp at c6
  have HQ := Lib.hid hq
  have HW6 := Lib.hid hw6
  have HX6 := Lib.hid hW6
  have HF6 := Lib.hid hf6
  have HBV := Lib.hid hbv6
  have HVN := Lib.hid hvnil
  have HVL := Lib.hid hvl
  clear hbv hvnil hvl hf5 hq hw6 hW6 hf6 hbv6
  go_wp2
  rw [← HW6.out, ← HQ.out]
  obtain ⟨w7, hw7⟩ : ∃ w7, w7 = ((w6.alloc (.cells #[.pointer (some ⟨q, 0, none⟩)] 138)).alloc (.cells #[.slice (some ⟨b, off, none⟩) ix cap, .slice (some ⟨w6.heap.size, 0, none⟩) 1 1, .slice a2 n2 c2] 139)).drew := ⟨_, rfl⟩
  have hf67 : Frm [] w6 w7 := by rw [hw7]; exact (((Frm.refl [] w6).alloc _).alloc _).drew
  have hlit : Whole w7 w6.heap.size 138 #[ptr q] := by
    have h1 := Whole.made w6 138 #[ptr q]
    rw [hw7]; exact (h1.alloc _).drew
  have hsls : PSlsIn w7 (w6.heap.size + 1) [⟨(some ⟨b, off, none⟩), cap, (qs.map ptr).take ix⟩, ⟨some ⟨w6.heap.size, 0, none⟩, 1, [ptr q]⟩, ⟨a2, c2, (qs.map ptr).drop (ix + 1)⟩] := by
    have h1 := (Whole.made (w6.alloc (.cells #[.pointer (some ⟨q, 0, none⟩)] 138)) 139 #[.slice (some ⟨b, off, none⟩) ix cap, .slice (some ⟨w6.heap.size, 0, none⟩) 1 1, .slice a2 n2 c2]).drew
    rw [← hw7] at h1
    have e1 : (w6.alloc (.cells #[.pointer (some ⟨q, 0, none⟩)] 138)).heap.size = w6.heap.size + 1 := by simp
    rw [e1] at h1
    have hff := HF6.out.trans hf67 (U := []) (by simp) (by simp)
    have s1 : PSlIn w7 ⟨some ⟨w6.heap.size, 0, none⟩, 1, [ptr q]⟩ := by
      refine ⟨.inr ⟨_, _, rfl, fun i u hu => ?_⟩, (fun h => by cases h), Nat.le_refl _, (show (1 : Nat) ≤ _ by omega), fun u hu => by simp at hu; subst hu; rfl⟩
      rw [hlit.cell, Nat.zero_add]; simpa using hu
    intro k hk
    have hk3 : k = 0 ∨ k = 1 ∨ k = 2 := by simp at hk; omega
    rcases hk3 with rfl | rfl | rfl
    · exact ⟨by rw [h1.cell]; simp [List.getD]; have h2 := HL1.out; rw [List.length_take, List.length_map] at h2; omega, HP1.out.keep hff⟩
    · exact ⟨by rw [h1.cell]; rfl, s1⟩
    · exact ⟨by rw [h1.cell]; simp [List.getD]; have h2 := HL2.out; rw [List.length_drop, List.length_map] at h2; omega, HP2.out.keep hff⟩
  have hall : pall [⟨(some ⟨b, off, none⟩), cap, (qs.map ptr).take ix⟩, ⟨some ⟨w6.heap.size, 0, none⟩, 1, [ptr q]⟩, ⟨a2, c2, (qs.map ptr).drop (ix + 1)⟩] = (qs.take ix ++ q :: qs.drop (ix + 1)).map ptr := by
    simp [pall, List.map_take, List.map_drop]
  have hcat := concatP_any hsls (n := 3) rfl (by omega) (by rw [hall]; simp [HH.out.len, ← HN.out]; omega)
  rw [hall] at hcat
  have hlq : ((qs.take ix ++ q :: qs.drop (ix + 1)).map ptr).length = ix + 1 + n2 := by
    have h1 := HL1.out; have h2 := HL2.out
    simp at h1 h2 ⊢
    omega
  have HLQ := Lib.hid hlq
  have HF7 := Lib.hid (HF6.out.trans hf67 (U := []) (by simp) (by simp))
  have HLX := Lib.hid (HX6.out.lt)
  have HF67 := Lib.hid hf67
  have c7 := ((HF6.out.alloc (.cells #[.pointer (some ⟨q, 0, none⟩)] 138)).whole HH.out.tree (by simp)).cell 0
  rw [← HN.out] at c7
  simp at c7
  rw [hw7] at hcat
  have HCA := Lib.hid hcat
  have HW7 := Lib.hid hw7
  clear hcat hlq hall hsls hlit hf67 hw7
  go_region_law (go_simp; go_at_call 122; (with_reducible refine HCA.out.mono ?_); rintro e w9 ⟨a9, c9, rfl, ho9, hf9⟩; rw [← HW7.out] at hf9 ho9; rw [HLQ.out]; have hf79 := Lib.hid (HF7.out.trans hf9 (U := []) (by simp) (by simp)); have hO9 := Lib.hid ho9; have hF9 := Lib.hid hf9; have c9p := (hf79.out.whole HH.out.tree (by simp)).cell 0; rw [← HN.out] at c9p; simp at c9p; have f9p := (hf79.out.whole HH.out.tree (by simp)).free 0; clear ho9 hf9)
  all_goals
    have hp79 := HF67.out.trans hF9.out (U := []) (by simp) (by simp)
    have hx9 := hp79.whole HX6.out (by simp)
    have hqp : q ≠ p := by have := HH.out.tree.lt; omega
    have hdone := put_done ix (ix + 1) ⟨⟨s, v, nv, own⟩, av, cv⟩ q HH.out HFF.out hf79.out (by rw [HV.out] at hx9; exact hx9) ⟨hp79.bytes HBV.out (by simp), fun _ x hx hm => (by
      have h1 := HVL.out x hx
      rcases List.mem_cons.1 hm with h2 | h2
      · have := HH.out.tree.lt; omega
      · have := HFF.out _ h2; omega), HVN.out, HNV.out, HOWN.out, (by show s.size ≤ _; omega)⟩ hq6 (OwnP.low hO9.out HF7.out.size) (ix + 1 + n2) (by have := HLQ.out; rwa [List.length_map] at this) HCNT.out
    have HST := Lib.hid hdone
    have cz := (hx9.other (p := ⟨p, 0, none⟩) hqp (.slice a9 (ix + 1 + n2) c9)).cell 2
    simp at cz
    clear hdone hx9 hp79 hqp hf79 hO9 hF9
    go_wp2
    go_ret2
    exact ⟨rfl, HST.out⟩

end Go.Proofs.YtbdgldlblkflpaaGreat
/- Contract of the program's Drop; New; the calls of a nil tree. -/
namespace Go.Proofs.YtbdgldlblkflpaaGreat
open Go.RowKit
set_option maxRecDepth 100000

/-- What stays when an owner's keys go. -/
def keepD (o : Nat) (L : List Nd) : List Nd := L.filter (fun d => decide (o = 0) || decide (d.own ≠ o))
def ownAt (w : World) (o : Nat) (q : Nat) : Bool := match w.cell? ⟨q, 3, none⟩ with | some (.int _ v) => v == (o : Int) | _ => false
theorem ownAt_nd {w : World} {o q : Nat} {x : Nx} (h : Whole w q 59 x.cells.toArray) : ownAt w o q = ((x.t.own : Int) == (o : Int)) := by
  have h3 : w.cell? ⟨q, 3, none⟩ = some (.int .u64 (x.t.own : Nat)) := h.cell 3
  unfold ownAt
  rw [h3]
theorem NdsAt.kept {w : World} {o : Nat} (ho : o ≠ 0) : ∀ {L : List Nx} {qs : List Nat}, NdsAt w L qs → NdsAt w (L.filter (fun x => decide (o = 0) || decide (x.t.own ≠ o))) (keepQ (ownAt w o) qs)
  | [], [], _ => ⟨rfl, fun i hi => by simp at hi⟩
  | [], _ :: _, h => absurd h.1 (by simp)
  | _ :: _, [], h => absurd h.1 (by simp)
  | x :: L, q :: qs, h => by
    have hx : Whole w q 59 x.cells.toArray := h.2 0 (by simp)
    have hr : NdsAt w L qs := ⟨by simpa using h.1, fun i hi => h.2 (i + 1) (by simpa using hi)⟩
    have ih := NdsAt.kept ho hr
    have e := ownAt_nd (o := o) hx
    unfold keepQ at ih ⊢
    by_cases hxo : x.t.own = o
    · have e2 : ownAt w o q = true := by rw [e, hxo]; simp
      rw [List.filter_cons, List.filter_cons, if_neg (by simp [ho, hxo]), if_neg (by simp [e2])]
      exact ih
    · have e2 : ownAt w o q = false := by rw [e, beq_eq_false_iff_ne]; omega
      rw [List.filter_cons, List.filter_cons, if_pos (by simp [hxo]), if_pos (by simp [e2])]
      exact (NdsAt.one hx).append ih
theorem keepD_nds (o : Nat) (L : List Nx) : nds (L.filter (fun x => decide (o = 0) || decide (x.t.own ≠ o))) = keepD o (nds L) := by
  unfold keepD nds
  rw [List.filter_map]
  rfl

set_option maxRecDepth 100000 in
set_option maxHeartbeats 2000000 in
theorem drop_any {w : World} {B p : Nat} {F : List Nat} {a : Option Addr} {cap : Nat} {L : List Nx} {qs : List Nat} (o : Nat) (h : Pt w B p F a cap L qs) (hF : ∀ x ∈ F, x < w.heap.size) :
    Calls Tryz.prog 127 #[.pointer (some ⟨p, 0, none⟩), .int .u64 (o : Nat)] w (PtEnd w B p F (keepD o (nds L)) (.tuple #[])) := by
  by_cases h0 : o = 0
  · have hk : keepD o (nds L) = nds L := by unfold keepD; rw [h0]; simp
    rw [hk]
    have HH := Lib.hid h
    subst h0
    clear h hF hk
    go_enter Tryz.func127, Tryz.ntmps127
    go_wp2
    exact bodyPost_ret (v := .tuple #[]) (by simp [results, Tryz.results127, go_sem]) rfl ⟨rfl, a, cap, L, qs, HH.out.keep ((Frm.refl [] w).alloc _) (by simp) (fun x hx => .inl hx), rfl, ((Frm.refl [] w).alloc _).weak (by simp)⟩
  · obtain ⟨w1, hw1⟩ : ∃ w1, w1 = w.alloc (.cells #[.int .u64 (o : Nat)] 38) := ⟨_, rfl⟩
    obtain ⟨g, hg⟩ : ∃ g, g = w.heap.size := ⟨_, rfl⟩
    have hW1 := Whole.made w 38 #[.int .u64 (o : Nat)]
    rw [← hw1, ← hg] at hW1
    have hf1 : Frm [] w w1 := by rw [hw1]; exact (Frm.refl _ _).alloc _
    have h1 := h.keep (F' := F) hf1 (by simp) (fun x hx => .inl hx)
    have hne : ((o : Int) == 0) = false := by rw [beq_eq_false_iff_ne]; omega
    obtain ⟨n, hn⟩ : ∃ n, n = L.length := ⟨_, rfl⟩
    have hn256 : n ≤ 256 := by rw [hn]; exact h.few
    have c1 := h1.tree.cell 0
    rw [← hn] at c1
    simp at c1
    rw [hw1] at c1
    have hgc := hW1.cell 0
    simp at hgc
    have HCL := Lib.hid (cloneP_any a n cap (qs.map ptr) w1 h1.ptrs (by rw [List.length_map, h1.len, hn]) (ptr_one qs) h1.nil (by omega))
    have HH := Lib.hid h
    have HH1 := Lib.hid h1
    have HFF := Lib.hid hF
    have HN := Lib.hid hn
    have HG := Lib.hid hg
    have HW := Lib.hid hw1
    have HWG := Lib.hid hW1
    have HF1 := Lib.hid hf1
    have H0 := Lib.hid h0
    clear h hF hn hg hw1 hW1 hf1 h1 h0
    go_enter Tryz.func127, Tryz.ntmps127
    go_wp2_with fail
    rw [← HW.out, ← HG.out]
    (with_reducible refine HCL.out.mono ?_)
    rintro e w2 ⟨a2, c2, rfl, ho2, hf2⟩
    rw [List.length_map, HH.out.len, ← HN.out]
    have hp : ∀ wr, Frm (blk a2) w2 wr → ∀ q ∈ qs, Calls Tryz.prog 163 (#[.pointer (some ⟨q, 0, none⟩)] ++ #[.pointer (some ⟨g, 0, none⟩)]) wr fun e w' => e = .returned (.bool (ownAt w1 o q)) ∧ Frm [] wr w' := by
      intro wr hfr q hq
      have hblk : ∀ x ∈ blk a2, w1.heap.size ≤ x := fun x hx => by
        obtain ⟨y, rfl, rfl⟩ := mem_blk.1 hx
        exact (ho2.lt y rfl).1
      obtain ⟨i, hi, rfl⟩ := List.getElem_of_mem hq
      have hw := HH1.out.nodes i (by rw [← HH.out.len]; exact hi)
      have e : qs.getD i 0 = qs[i] := by simp [hi]
      rw [e] at hw
      have hw2 := hf2.whole hw (by simp)
      have hwr := hfr.whole hw2 (fun hm => by have := hblk _ hm; have := hw.lt; omega)
      have hgr := hfr.whole (hf2.whole HWG.out (by simp)) (fun hm => by have := hblk _ hm; have := HWG.out.lt; omega)
      have h3 : wr.cell? ⟨qs[i], 3, none⟩ = some (.int .u64 ((L.getD i default).t.own : Nat)) := hwr.cell 3
      rw [ownAt_nd hw]
      exact dropf_any _ g _ o wr h3 (hgr.cell 0)
    have HDF := Lib.hid (deleteP_any a2 n c2 w1.heap.size qs #[.pointer (some ⟨g, 0, none⟩)] (ownAt w1 o) w2 ho2 (by rw [HH.out.len, ← HN.out]) (by omega) hp)
    have HO2 := Lib.hid ho2
    have HF2 := Lib.hid hf2
    clear hp ho2 hf2
    go_wp2_with fail
    (with_reducible refine HDF.out.mono ?_)
    rintro e w3 ⟨m, rfl, hm, ho3, hf3⟩
    have hf23 : Frm [] w1 w3 := HF2.out.trans hf3 (U := []) (by simp) (fun x hx => by
      obtain ⟨y, rfl, rfl⟩ := mem_blk.1 hx
      exact .inr (HO2.out.lt y rfl).1)
    have hf13 := HF1.out.trans hf23 (U := []) (by simp) (by simp)
    have hnq := NdsAt.kept H0.out HH1.out.nat
    have hqsub : ∀ x ∈ keepQ (ownAt w1 o) qs, x ∈ qs := fun x hx => (List.mem_filter.1 hx).1
    have hml : m ≤ 256 := by
      have := List.length_filter_le (fun q => !ownAt w1 o q) qs
      rw [HH.out.len, ← HN.out] at this
      unfold keepQ at hm; omega
    have hdone := less_done HH1.out (fun x hx => Nat.lt_of_lt_of_le (HFF.out x hx) HF1.out.size) hf23 hnq (fun x hx => (List.mem_filter.1 hx).1) hqsub (OwnP.low ho3 (Nat.le_refl _)) m hm.symm hml
    rw [keepD_nds] at hdone
    have c3p := (hf13.whole HH.out.tree (by simp)).cell 0
    rw [← HN.out] at c3p
    simp at c3p
    have f3p := (hf13.whole HH.out.tree (by simp)).free 0
    have HE := Lib.hid (show PtTo w (w3.setCell ⟨p, 0, none⟩ (.slice a2 m c2)) B p F (keepD o (nds L)) from by
      obtain ⟨a', c', X, rs, h1, h2, h3⟩ := hdone
      exact ⟨a', c', X, rs, h1, h2, HF1.out.trans h3 (U := [p]) (by simp) (fun x hx => .inl hx)⟩)
    clear hm ho3 hf3 hf23 hf13 hnq hqsub hml hdone HDF
    go_wp2
    go_end0
    exact ⟨rfl, HE.out⟩

/-- An empty tree. -/
theorem new_any (w : World) (F : List Nat) (hF : ∀ x ∈ F, x < w.heap.size) :
    Calls Tryz.prog 95 #[] w fun e w' => e = .returned (.pointer (some ⟨w.heap.size, 0, none⟩)) ∧ Pt w' w.heap.size w.heap.size F none 0 [] [] ∧ Frm [] w w' ∧ w'.heap.size = w.heap.size + 1 := by
  go_enter Tryz.func95, Tryz.ntmps95
  go_wp2
  go_ret
  exact ⟨rfl, ⟨Whole.made w _ _, rfl, .inl rfl, fun i hi => by simp at hi, NOk.nil _ _, Nat.le_refl _, fun hm => by have := hF _ hm; omega, fun h => absurd rfl h, by simp, by simp, by simp, Nat.zero_le _, fun _ => rfl⟩, (Frm.refl _ _).alloc _, by simp⟩

/-- A nil tree. -/
theorem nil_put (s : ByteArray) (v x y : Value) (w : World) : Calls Tryz.prog 120 #[.pointer none, .string s, v, x, y] w fun e w' => e = .returned (.tuple #[.int .u64 0, .int .i64 1]) ∧ w = w' := by
  go_enter Tryz.func120, Tryz.ntmps120
  go_wp2
  go_ret2
  exact ⟨rfl, rfl⟩
theorem nil_delete (s : ByteArray) (x : Value) (w : World) : Calls Tryz.prog 83 #[.pointer none, .string s, x] w fun e w' => e = .returned (.int .i64 1) ∧ w = w' := by
  go_enter Tryz.func83, Tryz.ntmps83
  go_wp2
  go_ret
  exact ⟨rfl, rfl⟩
theorem nil_list (s : ByteArray) (w : World) : Calls Tryz.prog 60 #[.pointer none, .string s] w fun e w' => e = .returned (.slice none 0 0) ∧ w = w' := by
  go_enter Tryz.func60, Tryz.ntmps60
  go_wp2
  go_ret
  exact ⟨rfl, rfl⟩
theorem nil_drop (o : Nat) (w : World) : Calls Tryz.prog 127 #[.pointer none, .int .u64 (o : Nat)] w fun e w' => e = .returned (.tuple #[]) ∧ Frm [] w w' := by
  go_enter Tryz.func127, Tryz.ntmps127
  go_wp2
  exact bodyPost_ret (v := .tuple #[]) (by simp [results, Tryz.results127, go_sem]) rfl ⟨rfl, (Frm.refl _ _).alloc _⟩
set_option maxHeartbeats 1000000 in
theorem nil_get (s : ByteArray) (w : World) : Calls Tryz.prog 39 #[.pointer none, .string s] w fun e w' => e = .returned (.tuple #[.agg #[.string ⟨#[]⟩, .slice none 0 0, .int .u64 0, .int .u64 0], .bool false]) ∧ Frm [] w w' := by
  go_enter Tryz.func39, Tryz.ntmps39
  go_wp2
  exact bodyPost_ret (v := .tuple #[.agg #[.string ⟨#[]⟩, .slice none 0 0, .int .u64 0, .int .u64 0], .bool false]) (by simp [results, Tryz.results39, go_sem]) rfl ⟨rfl, (Frm.refl _ _).alloc _⟩
end Go.Proofs.YtbdgldlblkflpaaGreat
/- Contract of the reference's Delete. -/
namespace Go.Proofs.YtbdgldlblkflpaaGreat
open Go.RowKit
set_option maxRecDepth 100000

def delC (X : List Nx) (s : ByteArray) (want : Nat) : Nat := if ¬ atN X s < X.length then 11 else if (X.getD (atN X s) default).t.ver ≠ want then 13 else 0

set_option maxRecDepth 100000 in
set_option maxHeartbeats 2000000 in
theorem rdel_bad {w : World} {B p : Nat} {F : List Nat} {a : Option Addr} {cap : Nat} {X : List Nx} (s : ByteArray) (want : Nat) (h : Rt w B p F a cap X) (hc : delC X s want ≠ 0) :
    Calls Tryz.prog 45 #[.pointer (some ⟨p, 0, none⟩), .string s, .int .u64 (want : Nat)] w fun e w' => e = .returned (.int .i64 (delC X s want : Nat)) ∧ w = w' := by
  have hR := Lib.hid (rat_any s h)
  have c0 := h.tree.cell 0
  simp at c0
  have hn := h.few
  have hat : atI X s = if atN X s < X.length then ((atN X s : Nat) : Int) else -1 := rfl
  have hrow := Lib.hid h.row.nl
  unfold delC at hc ⊢
  obtain ⟨q, hq⟩ : ∃ q, q = atN X s := ⟨_, rfl⟩
  obtain ⟨n, hnn⟩ : ∃ n, n = X.length := ⟨_, rfl⟩
  rw [← hq, ← hnn] at hc hat
  rw [← hq, ← hnn]
  rw [← hnn] at c0 hn
  have HNN := Lib.hid hnn
  clear h hq hnn
  by_cases hin : q < n
  · rw [if_pos hin] at hat
    rw [hat] at hR
    rw [if_neg (by omega)] at hc ⊢
    obtain ⟨b, off, rfl, _, _, p2, _, _⟩ := hrow.out.at (i := q) (by have := HNN.out; omega)
    generalize (X.getD q default).t.ver = ver at p2 hc ⊢
    by_cases e5 : ver = want
    · exfalso
      rw [if_neg (by omega)] at hc
      exact hc rfl
    · rw [if_pos e5]
      have e5' : ((ver : Int) != (want : Int)) = true := by simp; omega
      clear hat hc hrow HNN e5
      go_enter Tryz.func45, Tryz.ntmps45
      go_wp2_with fail
      refine hR.out.mono ?_
      rintro e w' ⟨rfl, rfl⟩
      go_wp2
      go_ret
      exact ⟨rfl, rfl⟩
  · rw [if_neg hin] at hat
    rw [hat] at hR
    rw [if_pos hin]
    clear hat hc hrow HNN
    go_enter Tryz.func45, Tryz.ntmps45
    go_wp2_with fail
    refine hR.out.mono ?_
    rintro e w' ⟨rfl, rfl⟩
    go_wp2
    go_ret
    exact ⟨rfl, rfl⟩

/-- An empty literal, appended to. -/
theorem frm_lit {w z w3 : World} {base m : Nat} {e : TypeId} {xs us : List Value} {a3 : Option Addr} {c3 : Nat} (hz : Frm [] w z) (h : AppS (z.alloc (.cells #[] e)) w3 base e 4 (.slice (some ⟨z.heap.size, 0, none⟩) 0 0) 0 m xs us a3 c3) : Frm [] w w3 :=
  (hz.alloc _).grown h.grown (fun k hk => .inr (by simp [Value.ownBlock] at hk; have := hz.size; omega))
theorem frm_app {w z w3 : World} {base n m : Nat} {e : TypeId} {v : Value} {xs us : List Value} {a3 : Option Addr} {c3 : Nat} (hz : Frm [] w z) (h : AppS z w3 base e 4 v n m xs us a3 c3) (hb : ∀ g, v.ownBlock = some g → w.heap.size ≤ g) : Frm [] w w3 :=
  hz.grown h.grown (fun k hk => .inr (hb k hk))

set_option maxRecDepth 100000 in
set_option maxHeartbeats 4000000 in
theorem rdel_ok {w : World} {B p : Nat} {F : List Nat} {a : Option Addr} {cap : Nat} {X : List Nx} (s : ByteArray) (want q : Nat) (h : Rt w B p F a cap X) (hF : ∀ x ∈ F, x < w.heap.size) (hq : q = atN X s) (hin : q < X.length) (hver : (X.getD q default).t.ver = want) :
    Calls Tryz.prog 45 #[.pointer (some ⟨p, 0, none⟩), .string s, .int .u64 (want : Nat)] w (RtEnd w B p F (X.take q ++ X.drop (q + 1)) (.int .i64 0)) := by
  obtain ⟨i0, hi, hz0, hz1, hz2⟩ := info_parts Tryz.info59
  have HI := Lib.hid hi; clear hi
  have HZ0 := Lib.hid hz0; clear hz0
  have HZ1 := Lib.hid hz1; clear hz1
  have HZ2 := Lib.hid hz2; clear hz2
  have hat : atI X s = (q : Int) := by unfold atI; rw [← hq, if_pos hin]
  have hR := rat_any s h
  rw [hat] at hR
  have HR := Lib.hid hR; clear hR hat
  obtain ⟨n, hnn⟩ : ∃ n, n = X.length := ⟨_, rfl⟩
  have hn : n ≤ 256 := by have := h.few; omega
  have hqn : q < n := by omega
  obtain ⟨b, off, rfl, _, _, p2, _, _⟩ := h.row.nl.at hin
  rw [hver] at p2
  have c0 := h.tree.cell 0
  rw [← hnn] at c0
  simp at c0
  have f0 := h.tree.free 0
  have hcap : n ≤ cap := by rw [hnn]; exact h.row.caps.1
  have hw3 : ((want : Int) != (want : Int)) = false := by simp
  have HH := Lib.hid h
  have HN := Lib.hid hnn
  have HPF : Hid (∀ x ∈ p :: F, x < w.heap.size) := Lib.hid fun x hx => by
    rcases List.mem_cons.1 hx with rfl | h1
    · exact HH.out.tree.lt
    · exact hF x h1
  -- the two pieces
  have hcut1 := fun w => run_head4 Tryz.underlying39 sizeN w (some ⟨b, off, none⟩) n cap q (by omega)
  have hcut2 := fun w => run_cut4 (P := Tryz.prog) Tryz.underlying39 sizeN w (some ⟨b, off, none⟩) n cap (q + 1) ((q : Int) + 1) (by omega) (by omega)
  obtain ⟨a2, ha2⟩ : ∃ a2, a2 = cut4 (some ⟨b, off, none⟩) cap (q + 1) := ⟨_, rfl⟩
  obtain ⟨n2, hn2⟩ : ∃ n2, n2 = n - (q + 1) := ⟨_, rfl⟩
  obtain ⟨c2, hc2⟩ : ∃ c2, c2 = cap - (q + 1) := ⟨_, rfl⟩
  have hD2 := h.row.nl.drop (by rw [← hnn]; exact hcap) (q + 1)
  rw [← ha2] at hcut2 hD2
  rw [← hn2, ← hc2] at hcut2
  have hD1 := h.row.nl.take q
  have hs1 : IntKind.i64.wrap ((q : Int) + 1) = (q : Int) + 1 := IntWalk.i64_in _ (by omega)
  have h2none : a2 = none → c2 = 0 := fun h0 => by
    rw [ha2] at h0
    unfold cut4 at h0
    split at h0 <;> simp at h0
  have HD1 := Lib.hid hD1
  have HD2 := Lib.hid hD2
  have H2N := Lib.hid h2none
  have hl1 : (nc (X.take q)).length = q * 4 := by rw [nc_length, List.length_take, ← hnn, Nat.min_eq_left (by omega)]
  have hl2 : (nc (X.drop (q + 1))).length = n2 * 4 := by rw [nc_length, List.length_drop, ← hnn, hn2]
  have hm1 : q = (X.take q).length := by rw [List.length_take, ← hnn, Nat.min_eq_left (by omega)]
  have hm2 : n2 = (X.drop (q + 1)).length := by rw [List.length_drop, ← hnn, hn2]
  have HL1 := Lib.hid hl1
  have HL2 := Lib.hid hl2
  have HM1 := Lib.hid hm1
  have HM2 := Lib.hid hm2
  have hfit1 : 0 + q ≤ 1000000000 := by omega
  have hfit2 : q + n2 ≤ 1000000000 := by omega
  have hfit3 : q + n2 ≤ 256 := by omega
  obtain ⟨wA, hA⟩ : ∃ wA, wA = w.alloc (.cells #[] 59) := ⟨_, rfl⟩
  have hfA : Frm [] w wA := by rw [hA]; exact (Frm.refl _ _).alloc _
  have cA := (hfA.whole HH.out.tree (by simp)).cell 0
  rw [← HN.out] at cA
  simp at cA
  rw [hA] at cA
  clear hnn hn2 hc2 ha2 hD1 hD2 h2none hl1 hl2 hm1 hm2 hF hq hin hver h hfA hA
  go_enter Tryz.func45, Tryz.ntmps45
  go_wp2_with fail
  refine HR.out.mono ?_
  rintro e w' ⟨rfl, rfl⟩
  go_wp2
  have cp : ∀ z, Frm [] w z → z.cell? ⟨p, 0, none⟩ = some (.slice (some ⟨b, off, none⟩) n cap) := fun z hz => (hz.cell (block_lt_of_cell c0) (by simp)).trans c0
  have V1 := Lib.hid (fun (z : World) (hz : Frm [] w z) => (HD1.out.keep (F' := p :: F) hz (by simp) (fun x h => .inl h)).vals)
  have V2 := Lib.hid (fun (z : World) (hz : Frm [] w z) => (HD2.out.keep (F' := p :: F) hz (by simp) (fun x h => .inl h)).vals)
  have LIT := Lib.hid (fun (z : World) (hz : Frm [] w z) => (show (z.alloc (.cells #[] 59)).ownsRow w.heap.size 59 4 (.slice (some ⟨z.heap.size, 0, none⟩) 0 0) 0 (nc []) from World.ownsRow_lit z #[] 0 hz.size (by unfold maxLen; omega) rfl))
  have FRZ := Lib.hid (fun (z : World) (hz : Frm [] w z) => (hz.whole HH.out.tree (by simp)).free 0)
  have OLN := Lib.hid (fun (z : World) (hz : Frm [] w z) => (show NOwn (z.alloc (.cells #[] 59)) w.heap.size 59 (p :: F) (some ⟨z.heap.size, 0, none⟩) 0 [] from ⟨World.ownsRow_lit z #[] 0 hz.size (by unfold maxLen; omega) rfl, NOk.nil _ _, fun g hg hm => by
    simp at hg; subst hg; have h1 := HPF.out _ hm; have h2 := hz.size; omega⟩))
  have f00 : Frm [] w w.drew := (Frm.refl [] w).drew
  go_region_law (first
    | (refine step_appS (by rfl) (.tmp 24) (.tmp 30) 39 rfl w.heap.size 59 i0 (.agg #[.string ⟨#[]⟩, .slice none 0 0, .int .u64 0, .int .u64 0]) 4 56 Tryz.underlying39 HI.out HZ0.out rfl (by decide) HZ1.out HZ2.out (by decide) _ 0 _ rfl (LIT.out w.drew f00) _ q cap _ rfl (V1.out _ (f00.alloc _)) HL1.out (nc_one _) (fun h => by cases h) hfit1 (f00.alloc _).size q (by omega) ?_; intro a3 c3 w3 happ3; have f3 : Frm [] w w3 := frm_lit f00 happ3; have O3 : Hid (w3.ownsRow w.heap.size 59 4 (.slice a3 q c3) q (nc (X.take q))) := (by have h := happ3.own; rw [Nat.zero_add] at h; exact Lib.hid h); have A3 := Lib.hid happ3; clear happ3; have cp3 := cp _ f3)
    | (refine step_appS (by rfl) (.tmp 31) (.tmp 38) 39 rfl w.heap.size 59 i0 (.agg #[.string ⟨#[]⟩, .slice none 0 0, .int .u64 0, .int .u64 0]) 4 56 Tryz.underlying39 HI.out HZ0.out rfl (by decide) HZ1.out HZ2.out (by decide) _ q _ rfl O3.out _ n2 c2 _ rfl (V2.out _ f3) HL2.out (nc_one _) H2N.out hfit2 f3.size (q + n2) rfl ?_; intro a4 c4 w4 happ4; have f4 : Frm [] w w4 := frm_app f3 happ4 (fun g hg => (World.ownsRow.lt O3.out g hg).1); have A4 := Lib.hid happ4; clear happ4; have cp4 := cp _ f4; have fp4 := FRZ.out _ f4))
  all_goals
    have hoka : ∀ (z : World) (G : List Nat) (Y : List Nx), Frm [] w z → (∀ x ∈ G, w.heap.size ≤ x) → NOk w (p :: F) Y → NOk z (G ++ (p :: F)) Y := fun z G Y hz hG hY => hY.keep hz (by simp) (fun x hx => by
      rcases List.mem_append.1 hx with h1 | h1
      · exact .inr (hG x h1)
      · exact .inl h1)
    obtain ⟨g1, g2, g3, g4⟩ := (OLN.out w.drew f00).app (X := []) rfl (hoka _ _ _ (f00.alloc _) (fun x hx => by simp at hx; subst hx; exact f00.size) HD1.out.ok) HM1.out (fun x hx => Nat.lt_of_lt_of_le (HPF.out x hx) (f00.alloc _).size) A3.out
    rw [List.nil_append] at g1
    obtain ⟨k1, k2, k3, k4⟩ := g1.app HM1.out (hoka _ _ _ f3 (fun x hx => (g1.blk_lt x hx).1) HD2.out.ok) HM2.out (fun x hx => Nat.lt_of_lt_of_le (HPF.out x hx) f3.size) A4.out
    have hst := Rt.store HH.out f4 k1 (by rw [← k4]; omega)
    rw [← k4] at hst
    have HST := Lib.hid hst
    clear hoka g1 g2 g3 g4 k1 k2 k3 k4 hst A3 A4 O3 cp cp3 cp4 fp4 f3 f4 f00
    go_wp2
    go_ret
    exact ⟨rfl, HST.out⟩

def DelEnd (w : World) (B p : Nat) (F : List Nat) (X' : List Nx) (code : Nat) (e : Ending) (w' : World) : Prop :=
  e = .returned (.int .i64 (code : Nat)) ∧ ∃ a' c', Rt w' B p F a' c' X' ∧ Frm [p] w w'
theorem rdel_any {w : World} {B p : Nat} {F : List Nat} {a : Option Addr} {cap : Nat} {X : List Nx} (s : ByteArray) (want : Nat) (h : Rt w B p F a cap X) (hF : ∀ x ∈ F, x < w.heap.size) :
    Calls Tryz.prog 45 #[.pointer (some ⟨p, 0, none⟩), .string s, .int .u64 (want : Nat)] w (DelEnd w B p F (if delC X s want = 0 then X.take (atN X s) ++ X.drop (atN X s + 1) else X) (delC X s want)) := by
  by_cases hc : delC X s want = 0
  · rw [if_pos hc, hc]
    have hc2 := hc
    unfold delC at hc2
    split at hc2
    · omega
    · split at hc2
      · omega
      · rename_i h1 h2
        refine (rdel_ok s want (atN X s) h hF rfl (by omega) (by omega)).mono ?_
        rintro e w' ⟨he, a', c', hr, hf, _⟩
        exact ⟨he, a', c', hr, hf⟩
  · rw [if_neg hc]
    refine (rdel_bad s want h hc).mono ?_
    rintro e w' ⟨he, rfl⟩
    exact ⟨he, a, cap, h, Frm.refl _ _⟩
end Go.Proofs.YtbdgldlblkflpaaGreat
/- Contract of the reference's List. -/
namespace Go.Proofs.YtbdgldlblkflpaaGreat
open Go.RowKit
set_option maxRecDepth 100000

/-- Where a node comes among others. -/
def pos (Y : List Nx) (K : ByteArray) : Nat := Y.findIdx (fun y => !kl y.t.k K)
theorem pos_le (Y : List Nx) (K : ByteArray) : pos Y K ≤ Y.length := List.findIdx_le_length
theorem pos_before {Y : List Nx} {K : ByteArray} {j : Nat} (h : j < pos Y K) : kl (Y.getD j default).t.k K = true := by
  have hj : j < Y.length := Nat.lt_of_lt_of_le h (pos_le Y K)
  have := List.not_of_lt_findIdx h
  rw [getD_get hj]
  simpa using this
theorem pos_at {Y : List Nx} {K : ByteArray} (h : pos Y K < Y.length) : kl (Y.getD (pos Y K) default).t.k K = false := by
  have h1 := List.findIdx_getElem (p := fun y : Nx => !kl y.t.k K) (w := h)
  rw [getD_get h]
  have h2 : (!kl Y[pos Y K].t.k K) = true := h1
  simpa using h2
def ins (x : Nx) (Y : List Nx) : List Nx := Y.take (pos Y x.t.k) ++ ([x] ++ Y.drop (pos Y x.t.k))
theorem ins_len (x : Nx) (Y : List Nx) : (ins x Y).length = Y.length + 1 := by
  have := pos_le Y x.t.k
  unfold ins; simp; omega
def preB (P K : ByteArray) : Bool := decide (P.size ≤ K.size) && ((K.extract 0 P.size).toList == P.toList)
def lsN (P : ByteArray) (X : List Nx) : List Nx := X.foldl (fun Y x => if preB P x.t.k = true then ins x Y else Y) []
theorem lsN_take {P : ByteArray} {X : List Nx} {k : Nat} (h : k < X.length) : lsN P (X.take (k + 1)) = if preB P (X.getD k default).t.k = true then ins (X.getD k default) (lsN P (X.take k)) else lsN P (X.take k) := by
  rw [getD_get h]
  unfold lsN
  rw [List.take_succ_eq_append_getElem h, List.foldl_append]
  rfl
theorem lsN_len (P : ByteArray) (X : List Nx) (k : Nat) (h : k ≤ X.length) : (lsN P (X.take k)).length ≤ k := by
  induction k with
  | zero => simp [lsN]
  | succ k ih =>
    have := ih (by omega)
    rw [lsN_take (by omega)]
    split
    · rw [ins_len]; omega
    · omega

def LsRel (w : World) (p : Nat) (F : List Nat) (P : ByteArray) (X : List Nx) (u5 u6 : Value) (wr : World) : Prop :=
  ∃ k a' c', k ≤ X.length ∧ u5 = .slice a' (lsN P (X.take k)).length c' ∧ u6 = .int .i64 (k : Nat) ∧ NOwn wr w.heap.size 59 (p :: F) a' c' (lsN P (X.take k)) ∧ Frm [] w wr
def ListEnd (w : World) (p : Nat) (F : List Nat) (Y : List Nx) (e : Ending) (w' : World) : Prop :=
  ∃ a' c', e = .returned (.slice a' Y.length c') ∧ NOwn w' w.heap.size 59 (p :: F) a' c' Y ∧ Frm [] w w'

set_option maxRecDepth 100000 in
set_option maxHeartbeats 4000000 in
theorem rlist_any {w : World} {B p : Nat} {F : List Nat} {a : Option Addr} {cap : Nat} {X : List Nx} (P : ByteArray) (h : Rt w B p F a cap X) (hF : ∀ x ∈ F, x < w.heap.size) (_hP : P.size ≤ 9223372036854775807) :
    Calls Tryz.prog 36 #[.pointer (some ⟨p, 0, none⟩), .string P] w (ListEnd w p F (lsN P X)) := by
  obtain ⟨i0, hi, hz0, hz1, hz2⟩ := info_parts Tryz.info59
  have HI := Lib.hid hi; clear hi
  have HZ0 := Lib.hid hz0; clear hz0
  have HZ1 := Lib.hid hz1; clear hz1
  have HZ2 := Lib.hid hz2; clear hz2
  have hn := h.few
  have HH := Lib.hid h; clear h
  have HPF : Hid (∀ x ∈ p :: F, x < w.heap.size) := Lib.hid fun x hx => by
    rcases List.mem_cons.1 hx with rfl | h1
    · exact HH.out.tree.lt
    · exact hF x h1
  clear hF
  obtain ⟨n, hnn⟩ : ∃ n, n = X.length := ⟨_, rfl⟩
  rw [← hnn] at hn
  have HN := Lib.hid hnn; clear hnn
  go_enter Tryz.func36, Tryz.ntmps36
  go_wp2
  go_loopw [5, 6] (fun u5 u6 wr => LsRel w p F P X u5 u6 wr) (fun _ u6 _ => n - (intOf u6).toNat)
  case atStart => exact ⟨0, none, 0, Nat.zero_le _, rfl, rfl, NOwn.nil _ _ _ _, Frm.refl _ _⟩
  case round =>
    obtain ⟨k, a', c', hk, rfl, rfl, hown, hf⟩ := hrel
    have HO := Lib.hid hown; clear hown
    have HF := Lib.hid hf; clear hf
    have c0 := (HF.out.whole HH.out.tree (by simp)).cell 0
    rw [← HN.out] at c0
    simp at c0
    have hYk := lsN_len P X k hk
    by_cases hlt : k < n
    · have hkL : k < X.length := by have := HN.out; omega
      obtain ⟨b, off, rfl, p0, p1, p2, p3, _⟩ := (HH.out.row.nl.keep (F' := p :: F) HF.out (by simp) (fun x h => .inl h)).at hkL
      have hst := lsN_take (P := P) hkL
      have hok := HH.out.row.nl.ok (X.getD k default) (by simp [hkL])
      obtain ⟨Y, hY⟩ : ∃ Y, Y = lsN P (X.take k) := ⟨_, rfl⟩
      rw [← hY] at HO hst hYk ⊢
      obtain ⟨m, hm⟩ : ∃ m, m = Y.length := ⟨_, rfl⟩
      rw [← hm] at hYk ⊢
      have HM := Lib.hid hm; clear hm
      obtain ⟨x, hx⟩ : ∃ x, x = X.getD k default := ⟨_, rfl⟩
      rw [← hx] at p0 p1 p2 p3 hst hok
      obtain ⟨⟨xk, xv, xver, xown⟩, xa, xc⟩ := x
      simp only at p0 p1 p2 p3 hst
      obtain ⟨xm, hxm⟩ : ∃ xm, xm = xv.length := ⟨_, rfl⟩
      rw [← hxm] at p1
      have HKL := Lib.hid hkL
      have HST := Lib.hid hst
      have HOK := Lib.hid hok
      have HXM := Lib.hid hxm
      clear hx hst hok hxm hkL hY hk
      by_cases hsz : xk.size < P.size
      · have hpb : preB P xk = false := by unfold preB; rw [decide_eq_false (by omega)]; rfl
        have hs2 := HST.out
        rw [hpb, if_neg (by simp)] at hs2
        have HS2 := Lib.hid hs2
        clear hs2 hpb
        go_wp2
        go_round
        case rel => exact ⟨k + 1, a', c', HKL.out, by rw [HS2.out, ← HM.out], by go_num, by rw [HS2.out]; exact HO.out, HF.out⟩
        case measure => simp [intOf]; omega
      · have hsz2 : P.size ≤ xk.size := by omega
        by_cases hpre : ((xk.extract 0 P.size).toList == P.toList) = true
        · have hpb : preB P xk = true := by unfold preB; rw [decide_eq_true hsz2, hpre]; rfl
          have hs2 := HST.out
          rw [hpb, if_pos rfl] at hs2
          have hs3 : (ins ⟨⟨xk, xv, xver, xown⟩, xa, xc⟩ Y) = Y.take (pos Y xk) ++ ([⟨⟨xk, xv, xver, xown⟩, xa, xc⟩] ++ Y.drop (pos Y xk)) := rfl
          rw [hs3] at hs2
          have hpl := pos_le Y xk
          have HPB := Lib.hid (fun j h => pos_before (Y := Y) (K := xk) (j := j) h)
          have HPA := Lib.hid (fun h => pos_at (Y := Y) (K := xk) h)
          obtain ⟨q, hq⟩ : ∃ q, q = pos Y xk := ⟨_, rfl⟩
          rw [← hq] at hs2 hpl HPB HPA
          have hqm : q ≤ m := by rw [HM.out]; exact hpl
          have HS2 := Lib.hid hs2
          clear hs2 hs3 hpl hq hpb HST
          go_wp2
          go_loop [8] (fun u8 => ∃ j : Nat, j ≤ q ∧ u8 = .int .i64 (j : Nat)) (fun u8 => m - (intOf u8).toNat)
          case atStart => exact ⟨0, Nat.zero_le _, rfl⟩
          case round =>
            obtain ⟨j, hj, rfl⟩ := hrel
            by_cases hjq : j < q
            · obtain ⟨b2, o2, rfl, y0, _⟩ := (HO.out.nl).at (i := j) (by have := HM.out; omega)
              have hless : Op.bytesLess (Y.getD j default).t.k.toList xk.toList = true := HPB.out j hjq
              generalize (Y.getD j default).t.k = yk at y0 hless
              have hjm : j < m := by omega
              go_wp2
              go_round
              case rel => exact ⟨j + 1, by omega, by go_num⟩
              case measure => simp [intOf]; omega
            · obtain rfl : j = q := by omega
              have hcap : m ≤ c' := by rw [HM.out]; exact HO.out.caps.1
              have hcut1 := fun w => run_head4m Tryz.underlying39 sizeN w a' m c' j j (Nat.le_refl _) (by omega)
              have hcut2 := fun w => run_cut4 (P := Tryz.prog) Tryz.underlying39 sizeN w a' m c' j (j : Int) rfl hqm
              have V1 := Lib.hid (fun (z : World) (hz : Frm [] wr z) => ((HO.out.nl.take j).keep (F' := p :: F) hz (by simp) (fun x h => .inl h)).vals)
              have V2 := Lib.hid (fun (z : World) (hz : Frm [] wr z) => ((HO.out.nl.drop (by rw [← HM.out]; exact hcap) j).keep (F' := p :: F) hz (by simp) (fun x h => .inl h)).vals)
              have hcn : cut4 a' c' j = none → c' - j = 0 := fun h0 => by
                have h1 := HO.out.caps.2.2
                unfold cut4 at h0
                split at h0
                · omega
                · have := h1 (by simpa using h0); omega
              have han : a' = none → j = 0 := fun h0 => by have := HO.out.caps.2.2 h0; omega
              obtain ⟨a2, ha2⟩ : ∃ a2, a2 = cut4 a' c' j := ⟨_, rfl⟩
              obtain ⟨n2, hn2⟩ : ∃ n2, n2 = m - j := ⟨_, rfl⟩
              obtain ⟨c2, hc2⟩ : ∃ c2, c2 = c' - j := ⟨_, rfl⟩
              rw [← ha2, ← hn2, ← hc2] at hcut2
              rw [← ha2] at V2 hcn
              rw [← hc2] at hcn
              have HCN := Lib.hid hcn
              have HAN := Lib.hid han
              have hl1 : (nc (Y.take j)).length = j * 4 := by rw [nc_length, List.length_take, ← HM.out, Nat.min_eq_left hqm]
              have hl2 : (nc (Y.drop j)).length = n2 * 4 := by rw [nc_length, List.length_drop, ← HM.out, hn2]
              have HL1 := Lib.hid hl1
              have HL2 := Lib.hid hl2
              have hfit1 : 1 + n2 ≤ 1000000000 := by omega
              have hfit2 : j + (1 + n2) ≤ 1000000000 := by omega
              have hpos : 0 < 1 + n2 := by omega
              have hsum : j + (1 + n2) = m + 1 := by omega
              have HSUM := Lib.hid hsum
              have HL12 : Hid ((nc [⟨⟨xk, xv, xver, xown⟩, xa, xc⟩] ++ nc (Y.drop j)).length = (1 + n2) * 4) := Lib.hid (by rw [List.length_append, hl2, nc_length, List.length_singleton]; omega)
              have HONE : Hid (∀ u ∈ nc [⟨⟨xk, xv, xver, xown⟩, xa, xc⟩] ++ nc (Y.drop j), u.oneCell' = true) := Lib.hid (fun u hu => (List.mem_append.1 hu).elim (nc_one _ u) (nc_one _ u))
              have HC := Lib.hid hcap
              have f00 : Frm [] wr (wr.alloc (.cells #[.string xk, .slice xa xm xc, .int .u64 (xver : Nat), .int .u64 (xown : Nat)] 59)).drew := ((Frm.refl [] wr).alloc _).drew
              have LIT : Hid ((wr.alloc (.cells #[.string xk, .slice xa xm xc, .int .u64 (xver : Nat), .int .u64 (xown : Nat)] 59)).drew.ownsRow w.heap.size 59 4 (.slice (some ⟨wr.heap.size, 0, none⟩) 1 1) 1 (nc [⟨⟨xk, xv, xver, xown⟩, xa, xc⟩])) := Lib.hid (by
                have h1 : (wr.alloc (.cells #[.string xk, .slice xa xm xc, .int .u64 (xver : Nat), .int .u64 (xown : Nat)] 59)).ownsRow w.heap.size 59 4 (.slice (some ⟨wr.heap.size, 0, none⟩) 1 1) 1 (nc [⟨⟨xk, xv, xver, xown⟩, xa, xc⟩]) := by
                  rw [HXM.out]; exact World.ownsRow_lit wr _ 1 HF.out.size (by unfold maxLen; omega) rfl
                exact h1)
              clear ha2 hn2 hc2 hcn han hl1 hl2 hsum hjq hcap
              have hcase : (¬ j < m) ∨ (j < m ∧ ∃ b2 o2 yk, a' = some ⟨b2, o2, none⟩ ∧ wr.cell? ⟨b2, o2 + j * 4, none⟩ = some (.string yk) ∧ Op.bytesLess yk.toList xk.toList = false) := by
                rcases Nat.lt_or_ge j m with h | h
                · obtain ⟨b2, o2, e, y0, _⟩ := (HO.out.nl).at (i := j) (by have := HM.out; omega)
                  exact .inr ⟨h, b2, o2, _, e, y0, HPA.out (by have := HM.out; omega)⟩
                · exact .inl (by omega)
              rcases hcase with hjm | ⟨hjm, b2, o2, yk, rfl, y0, hless⟩
              all_goals
                go_wp2
                go_region_law (first
                  | (refine step_appS (by rfl) (.tmp 65) (.tmp 68) 39 rfl w.heap.size 59 i0 (.agg #[.string ⟨#[]⟩, .slice none 0 0, .int .u64 0, .int .u64 0]) 4 56 Tryz.underlying39 HI.out HZ0.out rfl (by decide) HZ1.out HZ2.out (by decide) (.slice (some ⟨wr.heap.size, 0, none⟩) 1 1) 1 _ rfl LIT.out _ n2 c2 _ rfl (V2.out _ f00) HL2.out (nc_one _) HCN.out hfit1 (Nat.le_trans HF.out.size f00.size) (1 + n2) rfl ?_; intro a3 c3 w3 happ3; have A3 := Lib.hid happ3; clear happ3; have f3 : Frm [] wr w3 := f00.grown A3.out.grown (fun g hg => .inr (by simp [Value.ownBlock] at hg; omega)); have O3 := Lib.hid (own_vals A3.out.own))
                  | (refine step_appT (by rfl) (.tmp 57) (.tmp 69) 39 rfl w.heap.size 59 i0 (.agg #[.string ⟨#[]⟩, .slice none 0 0, .int .u64 0, .int .u64 0]) 4 56 Tryz.underlying39 HI.out HZ0.out rfl (by decide) HZ1.out HZ2.out (by decide) _ j _ rfl (V1.out _ f3) HL1.out _ (1 + n2) c3 _ rfl O3.out HL12.out HONE.out hpos hfit2 (Nat.le_trans HF.out.size f3.size) HAN.out (m + 1) HSUM.out ?_; intro a4 c4 w4 h4 f34 g4; have H4 := Lib.hid h4; have F34 := Lib.hid f34; have G4 := Lib.hid g4; clear h4 f34 g4))
              all_goals
                have hf4 : Frm [] wr w4 := f3.trans F34.out (by simp) (by simp)
                have hb4 : ∀ g ∈ blk a4, wr.heap.size ≤ g := fun g hg => Nat.le_trans f3.size (G4.out g hg)
                have hown4 : NOwn w4 w.heap.size 59 (p :: F) a4 c4 (Y.take j ++ ([⟨⟨xk, xv, xver, xown⟩, xa, xc⟩] ++ Y.drop j)) := by
                  have hlen : (Y.take j ++ ([(⟨⟨xk, xv, xver, xown⟩, xa, xc⟩ : Nx)] ++ Y.drop j)).length = m + 1 := by
                    have h1 := HM.out
                    simp; omega
                  refine ⟨by rw [hlen, nc_append, nc_append]; exact H4.out, fun y hy => ?_, fun g hg hm => by have h1 := hb4 g hg; have h2 := HPF.out g hm; have h3 := HF.out.size; omega⟩
                  have hsub : ∀ z ∈ blk a4 ++ (p :: F), z ∈ (p :: F) ∨ wr.heap.size ≤ z := fun z hz => by
                    rcases List.mem_append.1 hz with h1 | h1
                    · exact .inr (hb4 z h1)
                    · exact .inl h1
                  rcases List.mem_append.1 hy with h1 | h1
                  · exact (HO.out.nl.ok y (List.mem_of_mem_take h1)).keep hf4 (by simp) hsub
                  · rcases List.mem_append.1 h1 with h2 | h2
                    · simp at h2; subst h2
                      exact (HOK.out.keep (F' := p :: F) HF.out (by simp) (fun x h => .inl h)).keep hf4 (by simp) hsub
                    · exact (HO.out.nl.ok y (List.mem_of_mem_drop h2)).keep hf4 (by simp) hsub
                have HREL : Hid (LsRel w p F P X (.slice a4 (m + 1) c4) (.int .i64 ((k + 1 : Nat) : Int)) w4) := Lib.hid (by
                  refine ⟨k + 1, a4, c4, HKL.out, ?_, rfl, by rw [HS2.out]; exact hown4, HF.out.trans hf4 (U := []) (by simp) (by simp)⟩
                  rw [HS2.out]
                  have h1 := HM.out
                  congr 1
                  simp; omega)
                clear hf4 hb4 hown4 A3 O3 H4 F34 G4 f3
                go_wp2
                go_roundw
                case rel => exact HREL.out
                case measure => simp [intOf]; omega
        · have hpb : preB P xk = false := by
            unfold preB
            have : ((xk.extract 0 P.size).toList == P.toList) = false := by simpa using hpre
            rw [this, Bool.and_false]
          have hs2 := HST.out
          rw [hpb, if_neg (by simp)] at hs2
          have HS2 := Lib.hid hs2
          have hpre2 : ((xk.extract 0 P.size).toList == P.toList) = false := by simpa using hpre
          clear hs2 hpb hpre
          go_wp2
          go_round
          case rel => exact ⟨k + 1, a', c', HKL.out, by rw [HS2.out, ← HM.out], by go_num, by rw [HS2.out]; exact HO.out, HF.out⟩
          case measure => simp [intOf]; omega
    · have hkx : X.take k = X := List.take_of_length_le (by have := HN.out; omega)
      have ho := HO.out
      rw [hkx] at ho ⊢
      have HO2 := Lib.hid ho
      clear ho hkx HO hk
      obtain ⟨m, hm⟩ : ∃ m, m = (lsN P X).length := ⟨_, rfl⟩
      rw [← hm]
      have HM := Lib.hid hm; clear hm
      go_wp2
      go_ret
      exact ⟨a', c', by rw [← HM.out]; rfl, HO2.out, HF.out⟩
end Go.Proofs.YtbdgldlblkflpaaGreat
/- Contract of the reference's Put. -/
namespace Go.Proofs.YtbdgldlblkflpaaGreat
open Go.RowKit
set_option maxRecDepth 100000

/-- Which error Put answers (0: none). -/
def putC (X : List Nx) (s : ByteArray) (v : List Nat) (want : Nat) : Nat :=
  if s.size < 1 ∨ 64 < s.size then 10 else if 3840 < v.length then 3 else if want = 0 ∧ atN X s < X.length then 12 else if want ≠ 0 ∧ ¬ atN X s < X.length then 11
  else if atN X s < X.length ∧ (X.getD (atN X s) default).t.ver ≠ want then 13 else if ¬ atN X s < X.length ∧ 256 ≤ X.length then 14 else 0

set_option maxRecDepth 100000 in
set_option maxHeartbeats 2000000 in
theorem rput_bad {w : World} {B p : Nat} {F : List Nat} {a : Option Addr} {cap : Nat} {X : List Nx} (s : ByteArray) (va : Option Addr) (vn vc : Nat) (v : List Nat) (want own : Nat) (h : Rt w B p F a cap X) (hv : vn = v.length) (hv63 : vn ≤ 9223372036854775807)
    (hs : s.size ≤ 9223372036854775807) (hc : putC X s v want ≠ 0) :
    Calls Tryz.prog 44 #[.pointer (some ⟨p, 0, none⟩), .string s, .slice va vn vc, .int .u64 (want : Nat), .int .u64 (own : Nat)] w fun e w' => e = .returned (.tuple #[.int .u64 0, .int .i64 (putC X s v want : Nat)]) ∧ w = w' := by
  have hR := Lib.hid (rat_any s h)
  have c0 := h.tree.cell 0
  simp at c0
  have hn := h.few
  have hat : atI X s = if atN X s < X.length then ((atN X s : Nat) : Int) else -1 := rfl
  have hrow := Lib.hid h.row.nl
  have hle := atN_le X s
  unfold putC at hc ⊢
  obtain ⟨q, hq⟩ : ∃ q, q = atN X s := ⟨_, rfl⟩
  obtain ⟨n, hnn⟩ : ∃ n, n = X.length := ⟨_, rfl⟩
  rw [← hq, ← hnn] at hc hat
  rw [← hq, ← hnn]
  rw [← hnn] at c0 hn
  rw [← hv] at hc ⊢
  rw [← hq, ← hnn] at hle
  have HNN := Lib.hid hnn
  clear h hq hnn hv
  by_cases e1 : s.size < 1 ∨ 64 < s.size
  · rw [if_pos e1]
    have hA := Lib.hid hat
    obtain ⟨i, hi⟩ : ∃ i, i = atI X s := ⟨_, rfl⟩
    rw [← hi] at hR
    clear hat hc hA hi hrow HNN
    have e1' : s.size < 1 ∨ (¬ s.size < 1 ∧ 64 < s.size) := by omega
    rcases e1' with e1 | ⟨e1, e2⟩
    all_goals
      go_enter Tryz.func44, Tryz.ntmps44
      go_wp2_with fail
      refine hR.out.mono ?_
      rintro e w' ⟨rfl, rfl⟩
      go_wp2
      go_ret2
      exact ⟨rfl, rfl⟩
  rw [if_neg e1] at hc ⊢
  have g1 : ¬ s.size < 1 := by omega
  have g2 : ¬ 64 < s.size := by omega
  by_cases e2 : 3840 < vn
  · rw [if_pos e2]
    obtain ⟨i, hi⟩ : ∃ i, i = atI X s := ⟨_, rfl⟩
    rw [← hi] at hR
    clear hat hc hi hrow HNN e1
    go_enter Tryz.func44, Tryz.ntmps44
    go_wp2_with fail
    refine hR.out.mono ?_
    rintro e w' ⟨rfl, rfl⟩
    go_wp2
    go_ret2
    exact ⟨rfl, rfl⟩
  rw [if_neg e2] at hc ⊢
  by_cases hin : q < n
  · rw [if_pos hin] at hat
    rw [hat] at hR
    by_cases e3 : want = 0
    · rw [if_pos ⟨e3, hin⟩]
      have e3' : ((want : Int) == 0) = true := by simp; omega
      clear hat hc hrow HNN e1 e3
      go_enter Tryz.func44, Tryz.ntmps44
      go_wp2_with fail
      refine hR.out.mono ?_
      rintro e w' ⟨rfl, rfl⟩
      go_wp2
      go_ret2
      exact ⟨rfl, rfl⟩
    · rw [if_neg (by omega), if_neg (by omega)] at hc ⊢
      obtain ⟨b, off, rfl, p0, p1, p2, p3, _⟩ := hrow.out.at (i := q) (by have := HNN.out; omega)
      generalize (X.getD q default).t.ver = ver at p2 hc ⊢
      by_cases e5 : ver = want
      · exfalso
        rw [if_neg (by omega), if_neg (by omega)] at hc
        exact hc rfl
      · rw [if_pos ⟨hin, e5⟩]
        have e3' : ((want : Int) == 0) = false := by simp; omega
        have e3'' : ((want : Int) != 0) = true := by simp; omega
        have e5' : ((ver : Int) != (want : Int)) = true := by simp; omega
        clear hat hc hrow HNN e1 e3 e5 p0 p1 p3
        go_enter Tryz.func44, Tryz.ntmps44
        go_wp2_with fail
        refine hR.out.mono ?_
        rintro e w' ⟨rfl, rfl⟩
        go_wp2
        go_ret2
        exact ⟨rfl, rfl⟩
  · rw [if_neg hin] at hat
    rw [hat] at hR
    rw [if_neg (by omega)] at hc ⊢
    by_cases e4 : want = 0
    · rw [if_neg (by omega), if_neg (by omega)] at hc ⊢
      by_cases e6 : 256 ≤ n
      · rw [if_pos ⟨hin, e6⟩]
        have e3' : ((want : Int) == 0) = true := by simp; omega
        have e3'' : ((want : Int) != 0) = false := by simp; omega
        clear hat hc hrow HNN e1 e4
        go_enter Tryz.func44, Tryz.ntmps44
        go_wp2_with fail
        refine hR.out.mono ?_
        rintro e w' ⟨rfl, rfl⟩
        go_wp2
        go_ret2
        exact ⟨rfl, rfl⟩
      · exfalso
        rw [if_neg (by omega)] at hc
        exact hc rfl
    · rw [if_pos ⟨e4, hin⟩]
      have e3' : ((want : Int) == 0) = false := by simp; omega
      have e3'' : ((want : Int) != 0) = true := by simp; omega
      clear hat hc hrow HNN e1 e4
      go_enter Tryz.func44, Tryz.ntmps44
      go_wp2_with fail
      refine hR.out.mono ?_
      rintro e w' ⟨rfl, rfl⟩
      go_wp2
      go_ret2
      exact ⟨rfl, rfl⟩
end Go.Proofs.YtbdgldlblkflpaaGreat
/- Contract of the reference's Put where it puts: a new key, a key that is there. -/
namespace Go.Proofs.YtbdgldlblkflpaaGreat
open Go.RowKit
set_option maxRecDepth 100000

theorem putC_ok {X : List Nx} {s : ByteArray} {v : List Nat} {want : Nat} (h : putC X s v want = 0) :
    1 ≤ s.size ∧ s.size ≤ 64 ∧ v.length ≤ 3840 ∧ ((want = 0 ∧ ¬ atN X s < X.length ∧ X.length < 256) ∨ (want ≠ 0 ∧ atN X s < X.length ∧ (X.getD (atN X s) default).t.ver = want)) := by
  unfold putC at h
  split at h
  · omega
  split at h
  · omega
  split at h
  · omega
  split at h
  · omega
  split at h
  · omega
  split at h
  · omega
  rename_i h1 h2 h3 h4 h5 h6
  refine ⟨by omega, by omega, by omega, ?_⟩
  by_cases hin : atN X s < X.length
  · right
    refine ⟨fun h0 => h3 ⟨h0, hin⟩, hin, ?_⟩
    rcases Nat.lt_trichotomy (X.getD (atN X s) default).t.ver want with h | h | h
    · exact absurd ⟨hin, by omega⟩ h5
    · exact h
    · exact absurd ⟨hin, by omega⟩ h5
  · left
    refine ⟨?_, hin, ?_⟩
    · rcases Nat.eq_zero_or_pos want with h | h
      · exact h
      · exact absurd ⟨by omega, hin⟩ h4
    · rcases Nat.lt_or_ge X.length 256 with h | h
      · exact h
      · exact absurd ⟨hin, h⟩ h6

/-- What Put leaves where it puts: the nodes X', as nodes L'. -/
def RtPutEnd (w : World) (B p : Nat) (F : List Nat) (L' : List Nd) (ret : Nat) (e : Ending) (w' : World) : Prop :=
  e = .returned (.tuple #[.int .u64 (ret : Nat), .int .i64 0]) ∧ ∃ X', nds X' = L' ∧ RtTo w w' B p F X'

set_option maxRecDepth 100000 in
set_option maxHeartbeats 2000000 in
theorem rput_new {w : World} {B p : Nat} {F : List Nat} {a : Option Addr} {cap : Nat} {X : List Nx} (s : ByteArray) (va : Option Addr) (vn vc : Nat) (v : List Nat) (own : Nat) (h : Rt w B p F a cap X) (hF : ∀ x ∈ F, x < w.heap.size) (hb : Bytes w va v) (hv : vn = v.length) (hvn : va = none → vc = 0)
    (hs1 : 1 ≤ s.size) (hs2 : s.size ≤ 64) (hv2 : v.length ≤ 3840) (hown : own < 18446744073709551616) (hout : ¬ atN X s < X.length) (hfew : X.length < 256) :
    Calls Tryz.prog 44 #[.pointer (some ⟨p, 0, none⟩), .string s, .slice va vn vc, .int .u64 0, .int .u64 (own : Nat)] w (RtPutEnd w B p F (nds X ++ [⟨s, v, 1, own⟩]) 1) := by
  obtain ⟨i0, hi, hz0, hz1, hz2⟩ := info_parts Tryz.info59
  have HI := Lib.hid hi; clear hi
  have HZ0 := Lib.hid hz0; clear hz0
  have HZ1 := Lib.hid hz1; clear hz1
  have HZ2 := Lib.hid hz2; clear hz2
  obtain ⟨i1, hi, hz0, hz1, hz2⟩ := info_parts Tryz.info5
  have UI := Lib.hid hi; clear hi
  have UZ0 := Lib.hid hz0; clear hz0
  have UZ1 := Lib.hid hz1; clear hz1
  have UZ2 := Lib.hid hz2; clear hz2
  have hat : atI X s = -1 := by unfold atI; rw [if_neg hout]
  have hR := rat_any s h
  rw [hat] at hR
  have HR := Lib.hid hR; clear hR hat
  have hvn2 : vn ≤ 3840 := by omega
  obtain ⟨n, hnn⟩ : ∃ n, n = X.length := ⟨_, rfl⟩
  have hn : n < 256 := by omega
  have HH := Lib.hid h
  have HB := Lib.hid hb; clear hb
  have HV := Lib.hid hv; clear hv
  have HVN := Lib.hid hvn; clear hvn
  have HN := Lib.hid hnn
  have HPF : Hid (∀ x ∈ p :: F, x < w.heap.size) := Lib.hid fun x hx => by
    rcases List.mem_cons.1 hx with rfl | h1
    · exact HH.out.tree.lt
    · exact hF x h1
  have HS2 := Lib.hid (show s.size ≤ 9223372036854775807 by omega)
  have HOWN := Lib.hid hown
  have cw := h.tree.cell 0
  rw [← hnn] at cw
  simp at cw
  clear h hF hnn hout hfew hv2
  go_enter Tryz.func44, Tryz.ntmps44
  go_wp2_with fail
  refine HR.out.mono ?_
  rintro e w' ⟨rfl, rfl⟩
  go_wp2_with (at_builtin; refine wpList_append_bytes rfl (.tmp 71) (.tmp 72) 35 rfl w.heap.size 5 i1 Tryz.underlying35 UI.out UZ0.out UZ1.out UZ2.out _ 0 [] rfl ?own1 _ _ _ v rfl ?b1 HV.out HVN.out ?fit1 ?base1 ?_)
  case own1 => exact World.ownsRow_lit w #[] 0 (Nat.le_refl _) (by unfold maxLen; omega) rfl
  case b1 => exact ((Frm.refl [] w).alloc _).bytes HB.out (by simp)
  case fit1 => omega
  case base1 => simp
  intro av cv w2 hown2 hg2
  have hf2 : Frm [] w w2 := ((Frm.refl [] w).alloc _).grown hg2 (fun k hk => .inr (by simp [Value.ownBlock] at hk; omega))
  have hbv := bytes_of_own hown2 HB.out.1
  have hlv : ∀ x, av = some x → w.heap.size ≤ x.block := fun x hx => (World.ownsRow.lt hown2 x.block (by rw [hx]; rfl)).1
  have c0 := (hf2.whole HH.out.tree (by simp)).cell 0
  rw [← HN.out] at c0
  simp at c0
  have HF2 := Lib.hid hf2
  have HBV := Lib.hid hbv
  have HLV := Lib.hid hlv
  clear hg2 hown2 hf2 hbv hlv
  -- the nodes anew
  have hfl : Frm [] w2 (w2.alloc (.cells #[] 59)) := (Frm.refl _ _).alloc _
  have hwlit : (w2.alloc (.cells #[] 59)).ownsRow w.heap.size 59 4 (.slice (some ⟨w2.heap.size, 0, none⟩) 0 0) 0 (nc []) := World.ownsRow_lit w2 #[] 0 HF2.out.size (by unfold maxLen; omega) rfl
  have hff : Frm [] w (w2.alloc (.cells #[] 59)) := HF2.out.trans hfl (U := []) (by simp) (by simp)
  have OL : NOwn (w2.alloc (.cells #[] 59)) w.heap.size 59 (p :: F) (some ⟨w2.heap.size, 0, none⟩) 0 [] := ⟨hwlit, NOk.nil _ _, fun g hg hm => by
    simp at hg; subst hg; have h1 := HPF.out _ hm; have h2 := HF2.out.size; omega⟩
  have hvx := (HH.out.row.nl.keep (F' := p :: F) hff (by simp) (fun x h => .inl h)).vals
  have hokx : NOk (w2.alloc (.cells #[] 59)) (blk (some ⟨w2.heap.size, 0, none⟩) ++ (p :: F)) X := HH.out.row.nl.ok.keep hff (by simp) (fun x hx => by
    rcases List.mem_append.1 hx with h1 | h1
    · simp at h1; right; have := HF2.out.size; omega
    · exact .inl h1)
  have cl := (hff.whole HH.out.tree (by simp)).cell 0
  rw [← HN.out] at cl
  simp at cl
  have HOL := Lib.hid OL
  have HWL := Lib.hid hwlit
  have HVX := Lib.hid hvx
  have HOX := Lib.hid hokx
  have HFF := Lib.hid hff
  have hlx : (nc X).length = n * 4 := by rw [nc_length, HN.out]
  have HLX := Lib.hid hlx
  have hfit0 : 0 + n ≤ 1000000000 := by omega
  clear hfl hwlit hff OL hvx hokx hlx
  go_wp2_with (at_builtin; refine wpList_appS (by rfl) (.tmp 77) (.tmp 81) 39 rfl w.heap.size 59 i0 (.agg #[.string ⟨#[]⟩, .slice none 0 0, .int .u64 0, .int .u64 0]) 4 56 Tryz.underlying39 HI.out HZ0.out rfl (by decide) HZ1.out HZ2.out (by decide) (.slice (some ⟨w2.heap.size, 0, none⟩) 0 0) 0 _ rfl HWL.out _ n cap _ rfl HVX.out HLX.out (nc_one _) HH.out.row.caps.2.2 hfit0 HFF.out.size ?_)
  intro a3 c3 w3 happ
  obtain ⟨g1, g2, g3, g4⟩ := HOL.out.app rfl HOX.out HN.out (fun x hx => Nat.lt_of_lt_of_le (HPF.out x hx) HFF.out.size) happ
  rw [List.nil_append] at g1
  have hf3 : Frm [] w2 w3 := ((Frm.refl [] w2).alloc (.cells #[] 59)).trans g2 (U := []) (by simp) (fun x hx => .inr (by simp at hx; omega))
  have HF3 := Lib.hid (HF2.out.trans hf3 (U := []) (by simp) (by simp))
  have HBV3 := Lib.hid (hf3.bytes HBV.out.2.1 (by simp))
  have hg3 : ∀ x ∈ blk a3, w2.heap.size ≤ x := fun x hx => by
    rcases g3 x hx with h1 | h1
    · simp at h1; omega
    · simp at h1; omega
  have HLT : Hid (∀ x, av = some x → v ≠ [] → x.block < w2.heap.size) := Lib.hid fun x hx hne => bytes_lt HBV.out.2.1 hne x hx
  have HG3 := Lib.hid hg3
  have HO3 := Lib.hid g1
  clear happ g1 g2 g3 g4 hf3 hg3 HOL HWL HVX HOX HFF HLX hfit0
  -- one more
  obtain ⟨w4, hw4⟩ : ∃ w4, w4 = w3.alloc (.cells #[.string s, .slice av vn cv, .int .u64 1, .int .u64 (own : Nat)] 59) := ⟨_, rfl⟩
  have hf4 : Frm [] w3 w4 := by rw [hw4]; exact (Frm.refl _ _).alloc _
  have hv4 : ValsAt w4 (some ⟨w3.heap.size, 0, none⟩) (nc [⟨⟨s, v, 1, own⟩, av, cv⟩]) := by
    rw [hw4, HV.out]; exact nvals_one w3 ⟨⟨s, v, 1, own⟩, av, cv⟩ _
  have ho4 := HO3.out.keep (F' := p :: F) hf4 (by simp) (fun x h => .inl h)
  have hok4 : NOk w4 (blk a3 ++ (p :: F)) [⟨⟨s, v, 1, own⟩, av, cv⟩] := fun y hy => by
    simp at hy
    subst hy
    refine ⟨hf4.bytes HBV3.out (by simp), fun hne x hx hm => ?_, HBV.out.2.2, by show (1 : Nat) < _; omega, HOWN.out, HS2.out⟩
    have h1 := HLT.out x hx hne
    have h2 := HLV.out x hx
    rcases List.mem_append.1 hm with h | h
    · have := HG3.out _ h; omega
    · have := HPF.out _ h; omega
  have hown4 := ho4.own
  rw [← HN.out] at hown4
  have HO4 := Lib.hid ho4
  have HW4 := Lib.hid hown4
  have HV4 := Lib.hid hv4
  have HK4 := Lib.hid hok4
  have HF4 := Lib.hid (HF3.out.trans hf4 (U := []) (by simp) (by simp))
  have HWW := Lib.hid hw4
  have hfit1 : n + 1 ≤ 1000000000 := by omega
  clear hw4 hf4 hv4 ho4 hok4 hown4 HO3 HG3 HBV3
  go_wp2_with (at_builtin; rw [← HWW.out]; refine wpList_appS (by rfl) (.tmp 82) (.tmp 87) 39 rfl w.heap.size 59 i0 (.agg #[.string ⟨#[]⟩, .slice none 0 0, .int .u64 0, .int .u64 0]) 4 56 Tryz.underlying39 HI.out HZ0.out rfl (by decide) HZ1.out HZ2.out (by decide) (.slice a3 n c3) n _ rfl HW4.out _ 1 1 _ rfl HV4.out rfl (nc_one _) (fun h => by cases h) hfit1 HF4.out.size ?_)
  intro a5 c5 w5 happ
  obtain ⟨g1, g2, g3, g4⟩ := HO4.out.app HN.out HK4.out rfl (fun x hx => Nat.lt_of_lt_of_le (HPF.out x hx) HF4.out.size) happ
  have hf5 := HF4.out.trans g2 (U := []) (by simp) (fun x hx => .inr (HO4.out.blk_lt x hx).1)
  have hl5 : (X ++ [(⟨⟨s, v, 1, own⟩, av, cv⟩ : Nx)]).length = n + 1 := by rw [List.length_append, ← HN.out]; rfl
  have hst := Rt.store HH.out hf5 g1 (by rw [hl5]; omega)
  rw [hl5] at hst
  have HST := Lib.hid hst
  have f0 := (hf5.whole HH.out.tree (by simp)).free 0
  have c5 := (hf5.whole HH.out.tree (by simp)).cell 0
  rw [← HN.out] at c5
  simp at c5
  clear happ g1 g2 g3 g4 hst hf5 hl5
  go_wp2
  go_ret2
  exact ⟨rfl, _, by simp [nds], HST.out⟩
end Go.Proofs.YtbdgldlblkflpaaGreat
/- Contract of the reference's Put of a key that is there; Put in all. -/
namespace Go.Proofs.YtbdgldlblkflpaaGreat
open Go.RowKit
set_option maxRecDepth 100000

theorem nc_set (X : List Nx) (y : Nx) : ∀ q, q < X.length → y.t.k = (X.getD q default).t.k → y.t.own = (X.getD q default).t.own →
    nc (X.set q y) = ((nc X).set (q * 4 + 1) (.slice y.a y.t.v.length y.c)).set (q * 4 + 2) (.int .u64 (y.t.ver : Nat)) := by
  induction X with
  | nil => intro q h; simp at h
  | cons x X ih =>
    intro q hq hk ho
    have e : nc (x :: X) = .string x.t.k :: .slice x.a x.t.v.length x.c :: .int .u64 (x.t.ver : Nat) :: .int .u64 (x.t.own : Nat) :: nc X := rfl
    rcases q with _ | q
    · simp only [List.getD_cons_zero] at hk ho
      rw [e]
      simp [nc, Nx.cells, hk, ho]
    · have h := ih q (by simpa using hq) (by simpa using hk) (by simpa using ho)
      rw [List.set_cons_succ, nc_cons, h, e, show (q + 1) * 4 + 1 = q * 4 + 1 + 1 + 1 + 1 + 1 by omega, show (q + 1) * 4 + 2 = q * 4 + 2 + 1 + 1 + 1 + 1 by omega]
      rfl
theorem nds_set (X : List Nx) (y : Nx) (q : Nat) : nds (X.set q y) = (nds X).set q y.t := by simp [nds, List.map_set]

set_option maxRecDepth 100000 in
set_option maxHeartbeats 2000000 in
theorem rput_old {w : World} {B p : Nat} {F : List Nat} {a : Option Addr} {cap : Nat} {X : List Nx} (s : ByteArray) (va : Option Addr) (vn vc : Nat) (v : List Nat) (want own q nv : Nat) (h : Rt w B p F a cap X) (hF : ∀ x ∈ F, x < w.heap.size) (hb : Bytes w va v) (hv : vn = v.length) (hvn : va = none → vc = 0)
    (hs1 : 1 ≤ s.size) (hs2 : s.size ≤ 64) (hv2 : v.length ≤ 3840) (hw0 : want ≠ 0) (_hw : want < 18446744073709551616) (hq : q = atN X s) (hin : q < X.length) (hver : (X.getD q default).t.ver = want) (hnv : nv = (want + 1) % 18446744073709551616) :
    Calls Tryz.prog 44 #[.pointer (some ⟨p, 0, none⟩), .string s, .slice va vn vc, .int .u64 (want : Nat), .int .u64 (own : Nat)] w (RtPutEnd w B p F ((nds X).set q ⟨s, v, nv, (X.getD q default).t.own⟩) nv) := by
  obtain ⟨i0, hi, hz0, hz1, hz2⟩ := info_parts Tryz.info59
  have HI := Lib.hid hi; clear hi
  have HZ0 := Lib.hid hz0; clear hz0
  have HZ1 := Lib.hid hz1; clear hz1
  have HZ2 := Lib.hid hz2; clear hz2
  obtain ⟨i1, hi, hz0, hz1, hz2⟩ := info_parts Tryz.info5
  have UI := Lib.hid hi; clear hi
  have UZ0 := Lib.hid hz0; clear hz0
  have UZ1 := Lib.hid hz1; clear hz1
  have UZ2 := Lib.hid hz2; clear hz2
  have hat : atI X s = (q : Int) := by unfold atI; rw [← hq, if_pos hin]
  have hR := rat_any s h
  rw [hat] at hR
  have HR := Lib.hid hR; clear hR hat
  have hvn2 : vn ≤ 3840 := by omega
  obtain ⟨n, hnn⟩ : ∃ n, n = X.length := ⟨_, rfl⟩
  have hn : n ≤ 256 := by have := h.few; omega
  have hqn : q < n := by omega
  have hkey : (X.getD q default).t.k = s := by rw [hq]; exact atN_key (by rw [← hq]; exact hin)
  obtain ⟨xo, hxo⟩ : ∃ xo, xo = (X.getD q default).t.own := ⟨_, rfl⟩
  have hxo2 := (h.row.nl.ok (X.getD q default) (by simp [hin])).own
  rw [← hxo] at hxo2 ⊢
  have HH := Lib.hid h
  have HB := Lib.hid hb; clear hb
  have HV := Lib.hid hv; clear hv
  have HVN := Lib.hid hvn; clear hvn
  have HN := Lib.hid hnn
  have HPF : Hid (∀ x ∈ p :: F, x < w.heap.size) := Lib.hid fun x hx => by
    rcases List.mem_cons.1 hx with rfl | h1
    · exact HH.out.tree.lt
    · exact hF x h1
  have HS2 := Lib.hid (show s.size ≤ 9223372036854775807 by omega)
  have HKEY := Lib.hid hkey
  have HXO := Lib.hid hxo
  have HXO2 := Lib.hid hxo2
  have hw1 : ((want : Int) == 0) = false := by simp; omega
  have hw2 : ((want : Int) != 0) = true := by simp; omega
  have hw3 : ((want : Int) != (want : Int)) = false := by simp
  have hnv2 : ((want : Int) + 1) % 18446744073709551616 = (nv : Int) := by omega
  have hnv3 : IntKind.u64.wrap ((want : Int) + 1) = (nv : Int) := by rw [← hnv2]; rfl
  have hnv4 : nv < 18446744073709551616 := by omega
  have HNV4 := Lib.hid hnv4
  have cw := h.tree.cell 0
  rw [← hnn] at cw
  simp at cw
  obtain ⟨b, off, hab, _, _, p2, _, _⟩ := h.row.nl.at hin
  rw [hver] at p2
  have HAB := Lib.hid hab
  have cw2 := cw
  rw [hab] at cw2
  have HCW := Lib.hid cw
  clear h hF hnn hin hv2 hver hnv hkey hxo hxo2 hq cw hab hw0 hnv4
  go_enter Tryz.func44, Tryz.ntmps44
  go_wp2_with fail
  refine HR.out.mono ?_
  rintro e w' ⟨rfl, rfl⟩
  go_wp2_with (at_builtin; refine wpList_append_bytes rfl (.tmp 71) (.tmp 72) 35 rfl w.heap.size 5 i1 Tryz.underlying35 UI.out UZ0.out UZ1.out UZ2.out _ 0 [] rfl ?own1 _ _ _ v rfl ?b1 HV.out HVN.out ?fit1 ?base1 ?_)
  case own1 => exact World.ownsRow_lit w #[] 0 (Nat.le_refl _) (by unfold maxLen; omega) rfl
  case b1 => exact ((Frm.refl [] w).alloc _).bytes HB.out (by simp)
  case fit1 => omega
  try (case base1 => simp)
  intro av cv w2 hown2 hg2
  have hf2 : Frm [] w w2 := ((Frm.refl [] w).alloc _).grown hg2 (fun k hk => .inr (by simp [Value.ownBlock] at hk; omega))
  have hbv := bytes_of_own hown2 HB.out.1
  have hlv : ∀ x, av = some x → w.heap.size ≤ x.block := fun x hx => (World.ownsRow.lt hown2 x.block (by rw [hx]; rfl)).1
  have c0 := (hf2.whole HH.out.tree (by simp)).cell 0
  rw [← HN.out] at c0
  simp at c0
  have HF2 := Lib.hid hf2
  have HBV := Lib.hid hbv
  have HLV := Lib.hid hlv
  clear hg2 hown2 hf2 hbv hlv
  have hfl : Frm [] w2 (w2.alloc (.cells #[] 59)) := (Frm.refl _ _).alloc _
  have hwlit : (w2.alloc (.cells #[] 59)).ownsRow w.heap.size 59 4 (.slice (some ⟨w2.heap.size, 0, none⟩) 0 0) 0 (nc []) := World.ownsRow_lit w2 #[] 0 HF2.out.size (by unfold maxLen; omega) rfl
  have hff : Frm [] w (w2.alloc (.cells #[] 59)) := HF2.out.trans hfl (U := []) (by simp) (by simp)
  have OL : NOwn (w2.alloc (.cells #[] 59)) w.heap.size 59 (p :: F) (some ⟨w2.heap.size, 0, none⟩) 0 [] := ⟨hwlit, NOk.nil _ _, fun g hg hm => by
    simp at hg; subst hg; have h1 := HPF.out _ hm; have h2 := HF2.out.size; omega⟩
  have hvx := (HH.out.row.nl.keep (F' := p :: F) hff (by simp) (fun x h => .inl h)).vals
  have hokx : NOk (w2.alloc (.cells #[] 59)) (blk (some ⟨w2.heap.size, 0, none⟩) ++ (p :: F)) X := HH.out.row.nl.ok.keep hff (by simp) (fun x hx => by
    rcases List.mem_append.1 hx with h1 | h1
    · simp at h1; right; have := HF2.out.size; omega
    · exact .inl h1)
  have cl := (hff.whole HH.out.tree (by simp)).cell 0
  rw [← HN.out] at cl
  simp at cl
  have HOL := Lib.hid OL
  have HWL := Lib.hid hwlit
  have HVX := Lib.hid hvx
  have HOX := Lib.hid hokx
  have HFF := Lib.hid hff
  have hlx : (nc X).length = n * 4 := by rw [nc_length, HN.out]
  have HLX := Lib.hid hlx
  have hfit0 : 0 + n ≤ 1000000000 := by omega
  clear hfl hwlit hff OL hvx hokx hlx
  go_wp2_with (at_builtin; refine wpList_appS (by rfl) (.tmp 91) (.tmp 95) 39 rfl w.heap.size 59 i0 (.agg #[.string ⟨#[]⟩, .slice none 0 0, .int .u64 0, .int .u64 0]) 4 56 Tryz.underlying39 HI.out HZ0.out rfl (by decide) HZ1.out HZ2.out (by decide) (.slice (some ⟨w2.heap.size, 0, none⟩) 0 0) 0 _ rfl HWL.out _ n cap _ rfl HVX.out HLX.out (nc_one _) HH.out.row.caps.2.2 hfit0 HFF.out.size ?_)
  intro a3 c3 w3 happ
  obtain ⟨g1, g2, g3, g4⟩ := HOL.out.app rfl HOX.out HN.out (fun x hx => Nat.lt_of_lt_of_le (HPF.out x hx) HFF.out.size) happ
  rw [List.nil_append] at g1
  have hf3 : Frm [] w2 w3 := ((Frm.refl [] w2).alloc (.cells #[] 59)).trans g2 (U := []) (by simp) (fun x hx => .inr (by simp at hx; omega))
  have hg3 : ∀ x ∈ blk a3, w2.heap.size ≤ x := fun x hx => by
    rcases g3 x hx with h1 | h1
    · simp at h1; omega
    · simp at h1; omega
  have hF3 := HF2.out.trans hf3 (U := []) (by simp) (by simp)
  obtain ⟨g, rfl⟩ : ∃ g, a3 = some ⟨g, 0, none⟩ := by
    rcases g1.own.2 with ⟨_, h0⟩ | ⟨g, _, _, hv, _⟩
    · exfalso; have := HN.out; omega
    · simp only [Value.slice.injEq] at hv
      exact ⟨g, hv.1⟩
  have hgp : p ≠ g := by
    have h1 := hg3 g (by simp)
    have h2 := HPF.out p (by simp)
    have h3 := HF2.out.size
    omega
  have hrow := g1.own
  have e1 := World.ownsRow.cellAt hrow (q * 4 + 1) (by have := HN.out; omega)
  have e2 := World.ownsRow.cellAt hrow (q * 4 + 2) (by have := HN.out; omega)
  obtain ⟨_, n1, n2, _⟩ := nc_at X q (by have := HN.out; omega)
  rw [n1] at e1
  rw [n2] at e2
  have z1 := World.ownsRow.frozenAt hrow (q * 4 + 1)
  have z2 := World.ownsRow.frozenAt hrow (q * 4 + 2)
  obtain ⟨o1, _⟩ := World.ownsRow.stored hrow (q * 4 + 1) (.slice av vn cv)
  obtain ⟨o2, _⟩ := World.ownsRow.stored o1 (q * 4 + 2) (.int .u64 (nv : Nat))
  obtain ⟨w5, hw5⟩ : ∃ w5, w5 = (w3.setCell ⟨g, q * 4 + 1, none⟩ (.slice av vn cv)).setCell ⟨g, q * 4 + 2, none⟩ (.int .u64 (nv : Nat)) := ⟨_, rfl⟩
  have hbg : w.heap.size ≤ g := (g1.blk_lt g (by simp)).1
  have hf5 : Frm [g] w3 w5 := by rw [hw5]; exact ((Frm.refl _ _).setCell (.inl (by simp)) _).setCell (.inl (by simp)) _
  have hF5 : Frm [] w w5 := hF3.trans hf5 (by simp) (fun x hx => .inr (by simp at hx; omega))
  rw [← hw5] at o2
  have hset := nc_set X ⟨⟨s, v, nv, xo⟩, av, cv⟩ q (by have := HN.out; omega) HKEY.out.symm HXO.out
  rw [show (⟨⟨s, v, nv, xo⟩, av, cv⟩ : Nx).t.v.length = vn from HV.out.symm] at hset
  have hN5 : NOwn w5 w.heap.size 59 (p :: F) (some ⟨g, 0, none⟩) c3 (X.set q ⟨⟨s, v, nv, xo⟩, av, cv⟩) := by
    refine ⟨?_, fun y hy => ?_, g1.away⟩
    · rw [hset, List.length_set]; exact o2
    · rcases List.mem_or_eq_of_mem_set hy with h1 | h1
      · exact (g1.ok y h1).keep hf5 (fun x hx => .inl (by simp at hx; simp [hx])) (fun x hx => .inl hx)
      · subst h1
        have hv3 := hf3.bytes HBV.out.2.1 (by simp)
        have hav : v ≠ [] → ∀ x, av = some x → x.block ∉ blk (some ⟨g, 0, none⟩) ++ (p :: F) := fun hne x hx hm => by
          have h1 := bytes_lt HBV.out.2.1 hne x hx
          have h2 := HLV.out x hx
          rcases List.mem_append.1 hm with h | h
          · have := hg3 _ h; omega
          · have := HPF.out _ h; omega
        exact ⟨hf5.bytes' hv3 (fun hne x hx hm => hav hne x hx (by simp at hm; simp [hm])), hav, HBV.out.2.2, HNV4.out, HXO2.out, HS2.out⟩
  have hst := Rt.store HH.out hF5 hN5 (by rw [List.length_set]; have := HN.out; omega)
  rw [List.length_set, ← HN.out] at hst
  have HST := Lib.hid hst
  have k0 := (hF5.whole HH.out.tree (by simp)).cell 0
  have k1 := (hF5.whole HH.out.tree (by simp)).free 0
  rw [← HN.out] at k0
  simp at k0
  rw [hw5] at k0 k1
  have HW5 := Lib.hid hw5
  have hqi : 0 ≤ (q : Int) := by omega
  clear happ g1 g2 g3 g4 hf3 hg3 hF3 hrow n1 n2 o1 o2 hf5 hF5 hset hN5 hst hw5 HOL HWL HVX HOX HFF HLX hfit0 cl c0
  go_wp2
  go_ret2
  rw [← HW5.out]
  exact ⟨rfl, _, nds_set _ _ _, HST.out⟩

/-- Put's answer, and the nodes behind it. -/
def putL (X : List Nx) (s : ByteArray) (v : List Nat) (want own : Nat) : List Nd :=
  if putC X s v want ≠ 0 then nds X else if atN X s < X.length then (nds X).set (atN X s) ⟨s, v, (want + 1) % 18446744073709551616, (X.getD (atN X s) default).t.own⟩ else nds X ++ [⟨s, v, 1, own⟩]
def putR (X : List Nx) (s : ByteArray) (v : List Nat) (want : Nat) : Nat := if putC X s v want ≠ 0 then 0 else (want + 1) % 18446744073709551616
def PutAny (w : World) (B p : Nat) (F : List Nat) (L' : List Nd) (ret code : Nat) (e : Ending) (w' : World) : Prop :=
  e = .returned (.tuple #[.int .u64 (ret : Nat), .int .i64 (code : Nat)]) ∧ ∃ X', nds X' = L' ∧ ∃ a' c', Rt w' B p F a' c' X' ∧ Frm [p] w w'
theorem rput_any {w : World} {B p : Nat} {F : List Nat} {a : Option Addr} {cap : Nat} {X : List Nx} (s : ByteArray) (va : Option Addr) (vn vc : Nat) (v : List Nat) (want own : Nat) (h : Rt w B p F a cap X) (hF : ∀ x ∈ F, x < w.heap.size) (hb : Bytes w va v) (hv : vn = v.length) (hvn : va = none → vc = 0)
    (hs : s.size ≤ 9223372036854775807) (hw : want < 18446744073709551616) (ho : own < 18446744073709551616) :
    Calls Tryz.prog 44 #[.pointer (some ⟨p, 0, none⟩), .string s, .slice va vn vc, .int .u64 (want : Nat), .int .u64 (own : Nat)] w (PutAny w B p F (putL X s v want own) (putR X s v want) (putC X s v want)) := by
  by_cases hc : putC X s v want = 0
  · obtain ⟨h1, h2, h3, ⟨rfl, h5, h6⟩ | ⟨h4, h5, h6⟩⟩ := putC_ok hc
    · refine (rput_new s va vn vc v own h hF hb hv hvn h1 h2 h3 ho h5 h6).mono ?_
      rintro e w' ⟨he, X', hX, a', c', hr, hf, _⟩
      refine ⟨?_, X', ?_, a', c', hr, hf⟩
      · rw [hc, show putR X s v 0 = 1 by unfold putR; rw [if_neg (by omega)]]; exact he
      · unfold putL; rw [if_neg (by omega), if_neg h5]; exact hX
    · refine (rput_old s va vn vc v want own (atN X s) _ h hF hb hv hvn h1 h2 h3 h4 hw rfl h5 h6 rfl).mono ?_
      rintro e w' ⟨he, X', hX, a', c', hr, hf, _⟩
      refine ⟨?_, X', ?_, a', c', hr, hf⟩
      · rw [hc, show putR X s v want = (want + 1) % 18446744073709551616 by unfold putR; rw [if_neg (by omega)]]; exact he
      · unfold putL; rw [if_neg (by omega), if_pos h5]; exact hX
  · refine (rput_bad s va vn vc v want own h hv (by have := hb.2.1; omega) hs hc).mono ?_
    rintro e w' ⟨he, rfl⟩
    refine ⟨?_, X, ?_, a, cap, h, Frm.refl _ _⟩
    · rw [show putR X s v want = 0 by unfold putR; rw [if_pos hc]]; exact he
    · unfold putL; rw [if_pos hc]
end Go.Proofs.YtbdgldlblkflpaaGreat
/- Put, Delete of the program's tree in all; what the document's tree does is what the program's does. -/
namespace Go.Proofs.YtbdgldlblkflpaaGreat
open Go.RowKit
set_option maxRecDepth 100000

/-- Nodes in order, keys and values of lengths that Put lets in. -/
structure Good (L : List Nd) : Prop where
  srt : Srt L
  lens : ∀ d ∈ L, 1 ≤ d.k.size ∧ d.k.size ≤ 64 ∧ d.v.length ≤ 3840
theorem Good.small {L : List Nd} (h : Good L) : ∀ d ∈ L, d.k.size ≤ 64 ∧ d.v.length ≤ 3840 := fun d hd => ⟨(h.lens d hd).2.1, (h.lens d hd).2.2⟩
theorem Good.nil : Good [] := ⟨List.Pairwise.nil, by simp⟩
theorem lenC_ok {k n : Nat} (h : lenC k n = 0) : 1 ≤ k ∧ k ≤ 64 ∧ n ≤ 3840 := by
  unfold lenC at h
  split at h
  · omega
  · split at h <;> omega

def putNC (L : List Nd) (s : ByteArray) (v : List Nat) (want : Nat) : Nat := if lenC s.size v.length ≠ 0 then lenC s.size v.length else unwC L s want
def putNR (L : List Nd) (s : ByteArray) (v : List Nat) (want : Nat) : Nat := if putNC L s v want ≠ 0 then 0 else (want + 1) % 18446744073709551616
def putNL (L : List Nd) (s : ByteArray) (v : List Nat) (want own : Nat) : List Nd :=
  if putNC L s v want ≠ 0 then L
  else if isN L s = true then L.take (ixN L s) ++ ⟨s, v, (want + 1) % 18446744073709551616, (L.getD (ixN L s) default).own⟩ :: L.drop (ixN L s + 1)
  else L.take (ixN L s) ++ ⟨s, v, 1, own⟩ :: L.drop (ixN L s)
theorem unwC_ok {L : List Nd} {s : ByteArray} {want : Nat} (h : unwC L s want = 0) :
    (isN L s = true ∧ want ≠ 0 ∧ (L.getD (ixN L s) default).ver = want) ∨ (isN L s = false ∧ want = 0 ∧ L.length < 256) := by
  unfold unwC at h
  cases his : isN L s
  · rw [his, if_neg (by simp)] at h
    right
    split at h
    · omega
    · split at h <;> refine ⟨rfl, by omega, by omega⟩
  · rw [his, if_pos rfl] at h
    left
    split at h
    · omega
    · split at h
      · omega
      · rename_i h1 h2
        exact ⟨rfl, h1, by omega⟩
theorem Good.put {L : List Nd} (h : Good L) (s : ByteArray) (v : List Nat) (want own : Nat) : Good (putNL L s v want own) := by
  unfold putNL
  by_cases hc : putNC L s v want ≠ 0
  · rw [if_pos hc]; exact h
  · rw [if_neg hc]
    have hl : lenC s.size v.length = 0 := by
      unfold putNC at hc
      by_cases h1 : lenC s.size v.length ≠ 0
      · rw [if_pos h1] at hc; exact absurd h1 hc
      · omega
    obtain ⟨l1, l2, l3⟩ := lenC_ok hl
    cases his : isN L s
    · rw [if_neg (by simp)]
      refine ⟨h.srt.put (d := ⟨s, v, 1, own⟩) his, fun d hd => ?_⟩
      rcases List.mem_append.1 hd with h1 | h1
      · exact h.lens d (List.mem_of_mem_take h1)
      · rcases List.mem_cons.1 h1 with rfl | h1
        · exact ⟨l1, l2, l3⟩
        · exact h.lens d (List.mem_of_mem_drop h1)
    · rw [if_pos rfl]
      obtain ⟨d0, e0, k0, g0, _⟩ := isN_split his
      have hs := h.srt
      rw [e0] at hs
      refine ⟨hs.same (by rw [k0]), fun d hd => ?_⟩
      rcases List.mem_append.1 hd with h1 | h1
      · exact h.lens d (List.mem_of_mem_take h1)
      · rcases List.mem_cons.1 h1 with rfl | h1
        · exact ⟨l1, l2, l3⟩
        · exact h.lens d (List.mem_of_mem_drop h1)

/-- What a call of the program's tree leaves: the nodes L'. -/
def PtAny (w : World) (B p : Nat) (F : List Nat) (L' : List Nd) (v : Value) (e : Ending) (w' : World) : Prop := e = .returned v ∧ PtTo w w' B p F L'
theorem trput_any {w : World} {B p : Nat} {F : List Nat} {a : Option Addr} {cap : Nat} {L : List Nx} {qs : List Nat} (s : ByteArray) (va : Option Addr) (vn vc : Nat) (v : List Nat) (want own : Nat) (h : Pt w B p F a cap L qs) (hG : Good (nds L)) (hF : ∀ x ∈ F, x < w.heap.size)
    (hb : Bytes w va v) (hv : vn = v.length) (hvn : va = none → vc = 0) (hs : s.size ≤ 9223372036854775807) (_hw : want < 18446744073709551616) (ho : own < 18446744073709551616) :
    Calls Tryz.prog 120 #[.pointer (some ⟨p, 0, none⟩), .string s, .slice va vn vc, .int .u64 (want : Nat), .int .u64 (own : Nat)] w (PtAny w B p F (putNL (nds L) s v want own) (.tuple #[.int .u64 (putNR (nds L) s v want : Nat), .int .i64 (putNC (nds L) s v want : Nat)])) := by
  have hself : PtTo w w B p F (nds L) := ⟨a, cap, L, qs, h, rfl, Frm.refl _ _⟩
  have hv63 : vn ≤ 9223372036854775807 := by rw [hv]; exact hb.2.1
  by_cases hl : lenC s.size v.length = 0
  · by_cases hu : unwC (nds L) s want = 0
    · have hc : putNC (nds L) s v want = 0 := by unfold putNC; rw [if_neg (by omega)]; exact hu
      have hR : putNR (nds L) s v want = (want + 1) % 18446744073709551616 := by unfold putNR; rw [if_neg (by omega)]
      rw [hc, hR]
      unfold putNL
      rw [if_neg (by omega)]
      rcases unwC_ok hu with ⟨his, hw0, hver⟩ | ⟨his, rfl, hfew⟩
      · rw [if_pos his]
        refine (put_old s va vn vc v want _ own (ixN (nds L) s) _ h hG.srt hF hb hv hvn (by rw [hv]; exact hl) ?_ his hw0 hver rfl rfl rfl).mono fun _ _ h => h
        have hlt : ixN (nds L) s < L.length := by
          obtain ⟨_, _, _, _, h4⟩ := isN_split his
          rwa [nds_len'] at h4
        rw [nds_getD]
        exact (h.ok _ (by simp [hlt])).own
      · rw [if_neg (by rw [his]; simp)]
        exact (put_new s va vn vc v own (ixN (nds L) s) 1 h hG.srt hF hb hv hvn (by rw [hv]; exact hl) ho his (by rwa [nds_len'] at hfew) rfl rfl).mono fun _ _ h => h
    · have hc : putNC (nds L) s v want = unwC (nds L) s want := by unfold putNC; rw [if_neg (by omega)]
      have hR : putNR (nds L) s v want = 0 := by unfold putNR; rw [if_pos (by omega)]
      rw [hR, hc]
      unfold putNL
      rw [if_pos (by omega)]
      refine (put_unw s va vn vc want own h hG.srt hs hv63 (by rw [hv]; exact hl) hu).mono ?_
      rintro e w' ⟨he, rfl⟩
      exact ⟨he, hself⟩
  · have hc : putNC (nds L) s v want = lenC s.size v.length := by unfold putNC; rw [if_pos hl]
    have hR : putNR (nds L) s v want = 0 := by unfold putNR; rw [if_pos (by omega)]
    rw [hR, hc]
    unfold putNL
    rw [if_pos (by omega)]
    refine (put_len s va vn vc want own h hs hv63 (by rw [hv]; exact hl)).mono ?_
    rintro e w' ⟨he, rfl⟩
    exact ⟨by rw [he, hv]; rfl, hself⟩

def delL (L : List Nd) (s : ByteArray) (want : Nat) : List Nd := if delN L s want = 0 then L.take (ixN L s) ++ L.drop (ixN L s + 1) else L
theorem delN_ok {L : List Nd} {s : ByteArray} {want : Nat} (h : delN L s want = 0) : isN L s = true ∧ (L.getD (ixN L s) default).ver = want := by
  unfold delN at h
  cases his : isN L s
  · rw [his, if_neg (by simp)] at h; omega
  · rw [his, if_pos rfl] at h
    split at h
    · omega
    · exact ⟨rfl, by omega⟩
theorem Good.del {L : List Nd} (h : Good L) (s : ByteArray) (want : Nat) : Good (delL L s want) := by
  unfold delL
  by_cases hc : delN L s want = 0
  · rw [if_pos hc]
    obtain ⟨his, _⟩ := delN_ok hc
    obtain ⟨d0, e0, k0, g0, _⟩ := isN_split his
    have hs := h.srt
    rw [e0] at hs
    refine ⟨hs.less, fun d hd => ?_⟩
    rcases List.mem_append.1 hd with h1 | h1
    · exact h.lens d (List.mem_of_mem_take h1)
    · exact h.lens d (List.mem_of_mem_drop h1)
  · rw [if_neg hc]; exact h
theorem del_any {w : World} {B p : Nat} {F : List Nat} {a : Option Addr} {cap : Nat} {L : List Nx} {qs : List Nat} (s : ByteArray) (want : Nat) (h : Pt w B p F a cap L qs) (hG : Good (nds L)) (hF : ∀ x ∈ F, x < w.heap.size) :
    Calls Tryz.prog 83 #[.pointer (some ⟨p, 0, none⟩), .string s, .int .u64 (want : Nat)] w (PtAny w B p F (delL (nds L) s want) (.int .i64 (delN (nds L) s want : Nat))) := by
  unfold delL
  by_cases hc : delN (nds L) s want = 0
  · rw [if_pos hc, hc]
    obtain ⟨his, hv⟩ := delN_ok hc
    exact (del_ok s want _ h hG.srt hF his hv rfl).mono fun _ _ h => h
  · rw [if_neg hc]
    refine (del_bad s want h hG.srt hc).mono ?_
    rintro e w' ⟨he, rfl⟩
    exact ⟨he, a, cap, L, qs, h, rfl, Frm.refl _ _⟩
theorem Good.drop {L : List Nd} (h : Good L) (o : Nat) : Good (keepD o L) := ⟨h.srt.filter _, fun d hd => h.lens d (List.mem_filter.1 hd).1⟩

/-- The document's tree answers the same. -/
theorem Alike.codeP {L : List Nd} {X : List Nx} (h : Alike L X) (s : ByteArray) (v : List Nat) (want : Nat) : putC X s v want = putNC L s v want := by
  have ht := h.there s
  have hl := h.len
  unfold Go.Proofs.YtbdgldlblkflpaaGreat.putC putNC lenC unwC
  by_cases h1 : s.size < 1 ∨ 64 < s.size
  · rw [if_pos h1, if_pos h1, if_pos (by omega)]
  · rw [if_neg h1]
    by_cases h2 : 3840 < v.length
    · rw [if_pos h2, if_neg h1, if_pos h2, if_pos (by omega)]
    · by_cases hin : atN X s < X.length
      · have hnode := h.node hin
        rw [decide_eq_true hin] at ht
        simp only [h1, h2, if_false, ht, if_true, hin, hnode]
        by_cases h3 : want = 0
        · simp [h3]
        · simp [h3]
      · rw [decide_eq_false hin] at ht
        simp only [h1, h2, if_false, ht, hin]
        by_cases h3 : want = 0
        · simp [h3, hl]
        · simp [h3]
theorem Alike.retP {L : List Nd} {X : List Nx} (h : Alike L X) (s : ByteArray) (v : List Nat) (want : Nat) : putR X s v want = putNR L s v want := by
  unfold Go.Proofs.YtbdgldlblkflpaaGreat.putR putNR
  rw [h.codeP]
theorem nds_take (X : List Nx) (n : Nat) : nds (X.take n) = (nds X).take n := by simp [nds, List.map_take]
theorem nds_drop (X : List Nx) (n : Nat) : nds (X.drop n) = (nds X).drop n := by simp [nds, List.map_drop]
theorem nds_app (X Y : List Nx) : nds (X ++ Y) = nds X ++ nds Y := by simp [nds]
/-- A node taken out on both sides. -/
theorem Alike.cut {L : List Nd} {X : List Nx} (h : Alike L X) {s : ByteArray} (hin : atN X s < X.length) :
    ∃ d, L = L.take (ixN L s) ++ d :: L.drop (ixN L s + 1) ∧ nds X = (nds X).take (atN X s) ++ d :: (nds X).drop (atN X s + 1) ∧ d.k = s ∧ ((nds X).take (atN X s) ++ (nds X).drop (atN X s + 1)).Perm (L.take (ixN L s) ++ L.drop (ixN L s + 1)) := by
  have ht := h.there s
  rw [decide_eq_true hin] at ht
  obtain ⟨d, e, k, g, _⟩ := isN_split ht
  have hx : nds X = (nds X).take (atN X s) ++ d :: (nds X).drop (atN X s + 1) := by
    have hl : atN X s < (nds X).length := by rw [nds_len']; exact hin
    have hd : (nds X)[atN X s] = d := by
      rw [← g, h.node hin, ← nds_getD]; simp [hl]
    conv => lhs; rw [← List.take_append_drop (atN X s) (nds X), List.drop_eq_getElem_cons hl, hd]
  refine ⟨d, e, hx, k, ?_⟩
  have hp := h.perm
  rw [hx, e] at hp
  have := (List.perm_middle.symm.trans (hp.trans List.perm_middle))
  exact List.Perm.cons_inv this
theorem Alike.put {L : List Nd} {X X' : List Nx} (h : Alike L X) (hG : Good L) (s : ByteArray) (v : List Nat) (want own : Nat) (hX : nds X' = putL X s v want own) : Alike (putNL L s v want own) X' := by
  refine ⟨(hG.put s v want own).srt, ?_⟩
  rw [hX]
  unfold putL putNL
  rw [h.codeP]
  by_cases hc : putNC L s v want ≠ 0
  · rw [if_pos hc, if_pos hc]; exact h.perm
  · rw [if_neg hc, if_neg hc, h.there s]
    by_cases hin : atN X s < X.length
    · rw [if_pos hin, if_pos (by simp [hin]), h.node hin]
      obtain ⟨d, e1, e2, e3, hp⟩ := h.cut hin
      have hset : ∀ e : Nd, (nds X).set (atN X s) e = (nds X).take (atN X s) ++ e :: (nds X).drop (atN X s + 1) := fun e => by
        have hl : atN X s < (nds X).length := by rw [nds_len']; exact hin
        rw [List.set_eq_take_append_cons_drop, if_pos hl]
      rw [hset]
      exact List.perm_middle.trans ((hp.cons _).trans List.perm_middle.symm)
    · rw [if_neg hin, if_neg (by simp [hin])]
      have h1 : (nds X ++ [(⟨s, v, 1, own⟩ : Nd)]).Perm (⟨s, v, 1, own⟩ :: L) := (List.perm_append_singleton _ _).trans (h.perm.cons _)
      refine h1.trans ?_
      conv => lhs; rw [← List.take_append_drop (ixN L s) L]
      exact List.perm_middle.symm
theorem Alike.codeD {L : List Nd} {X : List Nx} (h : Alike L X) (s : ByteArray) (want : Nat) : delC X s want = delN L s want := by
  unfold Go.Proofs.YtbdgldlblkflpaaGreat.delC delN
  rw [h.there s]
  by_cases hin : atN X s < X.length
  · rw [if_neg (show ¬ ¬ atN X s < X.length from fun h => h hin), decide_eq_true hin, if_pos rfl, h.node hin]
  · rw [if_pos hin, if_neg (by simp [hin])]
theorem Alike.del {L : List Nd} {X X' : List Nx} (h : Alike L X) (hG : Good L) (s : ByteArray) (want : Nat) (hX : X' = if delC X s want = 0 then X.take (atN X s) ++ X.drop (atN X s + 1) else X) : Alike (delL L s want) X' := by
  refine ⟨(hG.del s want).srt, ?_⟩
  subst hX
  unfold delL
  rw [h.codeD]
  by_cases hc : delN L s want = 0
  · rw [if_pos hc, if_pos hc, nds_app, nds_take, nds_drop]
    have his := (delN_ok hc).1
    rw [h.there s] at his
    obtain ⟨d, e1, e2, e3, hp⟩ := h.cut (of_decide_eq_true his)
    exact hp
  · rw [if_neg hc, if_neg hc]; exact h.perm
theorem keepO_nds (o : Nat) (X : List Nx) : nds (keepO o X) = keepD o (nds X) := keepD_nds o X
theorem Alike.drop {L : List Nd} {X : List Nx} (h : Alike L X) (o : Nat) : Alike (keepD o L) (keepO o X) := by
  refine ⟨h.srt.filter _, ?_⟩
  rw [keepO_nds]
  exact h.perm.filter _

/-- The document's list. -/
theorem pos_ix (Y : List Nx) (K : ByteArray) : pos Y K = ixN (nds Y) K := by
  unfold pos ixN nds
  rw [List.findIdx_map]
  rfl
theorem ins_nds (x : Nx) (Y : List Nx) : nds (ins x Y) = (nds Y).take (ixN (nds Y) x.t.k) ++ x.t :: (nds Y).drop (ixN (nds Y) x.t.k) := by
  unfold ins
  rw [nds_app, nds_take, pos_ix, nds_app, nds_drop]
  rfl
theorem preB_pfx (P K : ByteArray) : preB P K = pfx P K := by unfold preB pfx; exact Lib.hasPrefix_raw K P
theorem Alike.dis {L : List Nd} {X : List Nx} (h : Alike L X) : (nds X).Pairwise (fun a b => a.k ≠ b.k) :=
  (List.Perm.pairwise_iff (fun {_ _} h => Ne.symm h) h.perm).2 (List.Pairwise.imp (fun h => kl_ne h) h.srt)
theorem lsN_inv (P : ByteArray) (X : List Nx) (hd : (nds X).Pairwise (fun a b => a.k ≠ b.k)) : ∀ k, k ≤ X.length → Srt (nds (lsN P (X.take k))) ∧ (nds (lsN P (X.take k))).Perm (((nds X).take k).filter (fun d => pfx P d.k))
  | 0, _ => by simp [lsN, nds, Srt]
  | k + 1, hk => by
    obtain ⟨h1, h2⟩ := lsN_inv P X hd k (by omega)
    have hkl : k < X.length := by omega
    have hkn : k < (nds X).length := by rw [nds_len']; exact hkl
    have e : (nds X)[k] = (X.getD k default).t := by rw [← nds_getD]; simp [hkn]
    rw [lsN_take hkl, preB_pfx, List.take_succ_eq_append_getElem hkn, List.filter_append, e]
    cases hp : pfx P (X.getD k default).t.k
    · rw [if_neg (by simp)]
      have e0 : List.filter (fun d => pfx P d.k) [(X.getD k default).t] = [] := by rw [List.filter_cons, if_neg (by rw [hp]; simp)]; rfl
      rw [e0, List.append_nil]
      exact ⟨h1, h2⟩
    · rw [if_pos rfl, ins_nds]
      have hno : isN (nds (lsN P (X.take k))) (X.getD k default).t.k = false := by
        cases his : isN (nds (lsN P (X.take k))) (X.getD k default).t.k with
        | false => rfl
        | true =>
          obtain ⟨d, hd1, hd2⟩ := (isN_iff h1).1 his
          have hd3 := (List.mem_filter.1 (h2.subset hd1)).1
          obtain ⟨i, hi, rfl⟩ := List.getElem_of_mem hd3
          rw [List.length_take] at hi
          have := List.pairwise_iff_getElem.1 hd i k (by omega) hkn (by omega)
          rw [e] at this
          rw [List.getElem_take] at hd2
          exact absurd hd2 this
      refine ⟨h1.put hno, ?_⟩
      have hm := (List.perm_middle (a := (X.getD k default).t) (l₁ := (nds (lsN P (X.take k))).take (ixN (nds (lsN P (X.take k))) (X.getD k default).t.k)) (l₂ := (nds (lsN P (X.take k))).drop (ixN (nds (lsN P (X.take k))) (X.getD k default).t.k)))
      rw [List.take_append_drop] at hm
      refine hm.trans ((h2.cons _).trans ?_)
      simp only [List.filter_cons, hp, if_true, List.filter_nil]
      exact (List.perm_append_singleton _ _).symm
theorem Alike.list {L : List Nd} {X : List Nx} (h : Alike L X) (P : ByteArray) : nds (lsN P X) = L.filter (fun d => pfx P d.k) := by
  obtain ⟨h1, h2⟩ := lsN_inv P X h.dis X.length (Nat.le_refl _)
  rw [List.take_of_length_le (Nat.le_refl _)] at h1 h2
  rw [List.take_of_length_le (by rw [nds_len']; exact Nat.le_refl _)] at h2
  exact h1.eq (h.srt.filter _) (h2.trans (h.perm.filter _))
theorem Alike.nil : Alike [] [] := ⟨List.Pairwise.nil, by simp [nds]⟩
end Go.Proofs.YtbdgldlblkflpaaGreat
/- Contracts of the program's right and of the reference's Loads: can nodes be a tree's? -/
namespace Go.Proofs.YtbdgldlblkflpaaGreat
open Go.RowKit
set_option maxRecDepth 100000

/-- Is the node at i one that a tree may have there? -/
def okAt (X : List Nd) (i : Nat) : Prop := lenC (X.getD i default).k.size (X.getD i default).v.length = 0 ∧ (X.getD i default).ver ≠ 0 ∧ (0 < i → kl (X.getD (i - 1) default).k (X.getD i default).k = true)
def LoadsP (X : List Nd) : Prop := X.length ≤ 256 ∧ ∀ i, i < X.length → okAt X i
theorem kl_cases (a b : ByteArray) : (kl a b = true ∧ Op.bytesLess b.toList a.toList = false ∧ (b.toList == a.toList) = false) ∨ (kl a b = false ∧ Op.bytesLess b.toList a.toList = true) ∨ (kl a b = false ∧ Op.bytesLess b.toList a.toList = false ∧ (b.toList == a.toList) = true) := by
  cases h : kl a b
  · right
    cases h2 : Op.bytesLess b.toList a.toList
    · right
      have e := kl_tot h h2
      subst e
      exact ⟨rfl, rfl, by simp⟩
    · exact .inl ⟨rfl, rfl⟩
  · refine .inl ⟨rfl, kl_asym h, txt_ne (fun e => kl_ne h e.symm)⟩
def BoolF (w : World) (P : Prop) (e : Ending) (w' : World) : Prop := (∃ b : Bool, e = .returned (.bool b) ∧ (b = true ↔ P)) ∧ Frm [] w w'

set_option maxRecDepth 100000 in
set_option maxHeartbeats 4000000 in
theorem right_any (a : Option Addr) (n c : Nat) (X : List Nx) (F : List Nat) (w : World) (h : NL w F a X) (hn : n = X.length) (hfit : n ≤ 9223372036854775807) :
    Calls Tryz.prog 156 #[.slice a n c] w (BoolF w (LoadsP (nds X))) := by
  have H := Lib.hid h; clear h
  have HN := Lib.hid hn; clear hn
  by_cases hbig : 256 < n
  · have HE : Hid (∀ z, Frm [] w z → BoolF w (LoadsP (nds X)) (.returned (.bool false)) z) := Lib.hid fun z hz => ⟨⟨false, rfl, by simp; intro h; have := h.1; rw [nds_len', ← HN.out] at this; omega⟩, hz⟩
    go_enter Tryz.func156, Tryz.ntmps156
    go_wp2
    go_ret
    exact HE.out _ (Frm.refl _ _)
  · go_enter Tryz.func156, Tryz.ntmps156
    go_wp2
    go_loopw [10] (fun u10 wr => ∃ k : Nat, k ≤ n ∧ u10 = .int .i64 (k : Nat) ∧ Hid (∀ i, i < k → okAt (nds X) i) ∧ Frm [] w wr) (fun u10 _ => n - (intOf u10).toNat)
    case atStart => exact ⟨0, Nat.zero_le _, rfl, Lib.hid (fun i hi => absurd hi (Nat.not_lt_zero _)), Frm.refl _ _⟩
    case round =>
      obtain ⟨k, hk, rfl, HOK, hf⟩ := hrel
      have HF := Lib.hid hf; clear hf
      by_cases hlt : k < n
      · have hkX : k < X.length := by have := HN.out; omega
        obtain ⟨b, off, rfl, p0, p1, p2, p3, ok⟩ := (H.out.keep (F' := F) HF.out (by simp) (fun x h => .inl h)).at hkX
        have hokd : okAt (nds X) k ↔ lenC (X.getD k default).t.k.size (X.getD k default).t.v.length = 0 ∧ (X.getD k default).t.ver ≠ 0 ∧ (0 < k → kl ((nds X).getD (k - 1) default).k (X.getD k default).t.k = true) := by
          unfold okAt; rw [nds_getD (i := k)]
        have hvl := ok.bytes.2.1
        have hkl := ok.key
        have hpk : ((nds X).getD (k - 1) default).k = (X.getD (k - 1) default).t.k := by rw [nds_getD]
        have hprev : 0 < k → wr.cell? ⟨b, off + (k - 1) * 4, none⟩ = some (.string ((nds X).getD (k - 1) default).k) := fun h0 => by
          obtain ⟨b', off', e, q0, _⟩ := (H.out.keep (F' := F) HF.out (by simp) (fun x h => .inl h)).at (i := k - 1) (by omega)
          cases e
          rw [hpk]; exact q0
        obtain ⟨x, hx⟩ : ∃ x, x = X.getD k default := ⟨_, rfl⟩
        rw [← hx] at p0 p1 p2 p3 hokd hvl hkl
        obtain ⟨⟨xk, xv, xver, xown⟩, xa, xc⟩ := x
        simp only at p0 p1 p2 p3 hokd hvl hkl
        obtain ⟨m, hm⟩ : ∃ m, m = xv.length := ⟨_, rfl⟩
        rw [← hm] at p1 hokd hvl
        obtain ⟨pk, hpke⟩ : ∃ pk, pk = ((nds X).getD (k - 1) default).k := ⟨_, rfl⟩
        rw [← hpke] at hokd hprev
        have HOD := Lib.hid hokd
        have HPREV := Lib.hid hprev
        obtain ⟨g, hg⟩ : ∃ g, g = wr.heap.size := ⟨_, rfl⟩
        obtain ⟨w2, hw2⟩ : ∃ w2, w2 = wr.alloc (.cells #[.string xk, .slice xa m xc, .int .u64 (xver : Nat), .int .u64 (xown : Nat)] 59) := ⟨_, rfl⟩
        have hW2 := Whole.made wr 59 #[.string xk, .slice xa m xc, .int .u64 (xver : Nat), .int .u64 (xown : Nat)]
        rw [← hw2, ← hg] at hW2
        have hf2 : Frm [] wr w2 := by rw [hw2]; exact (Frm.refl _ _).alloc _
        have e0 := hW2.cell 0
        have e1 := hW2.cell 1
        have e2 := hW2.cell 2
        simp at e0 e1 e2
        have HW2 := Lib.hid hw2
        have HG := Lib.hid hg
        have HF2 := Lib.hid (HF.out.trans hf2 (U := []) (by simp) (by simp))
        have HLE := Lib.hid (fun z => lengths_any xk xa m xc z hkl hvl)
        have HPV2 : Hid (0 < k → w2.cell? ⟨b, off + (k - 1) * 4, none⟩ = some (.string pk)) := Lib.hid fun h0 => (hf2.cell (block_lt_of_cell (HPREV.out h0)) (by simp)).trans (HPREV.out h0)
        have HBAD : Hid (¬ okAt (nds X) k → ∀ z, Frm [] w z → BoolF w (LoadsP (nds X)) (.returned (.bool false)) z) := Lib.hid fun hno z hz => ⟨⟨false, rfl, by simp; intro h; exact hno (h.2 k (by rw [nds_len']; exact hkX))⟩, hz⟩
        have HNEXT : Hid (okAt (nds X) k → ∀ i, i < k + 1 → okAt (nds X) i) := Lib.hid fun ho i hi => by
          rcases Nat.lt_or_ge i k with h | h
          · exact HOK.out i h
          · have : i = k := by omega
            subst this; exact ho
        have hs1 : 0 < k → IntKind.i64.wrap ((k : Int) - 1) = ((k - 1 : Nat) : Int) := fun h0 => by rw [IntWalk.i64_in _ (by omega)]; omega
        have HS1 := Lib.hid hs1
        clear hokd hprev hx hm hpke hpk ok hw2 hg hW2 hf2 hkX hvl hkl hs1 HPREV
        by_cases hver : xver = 0
        · have hno : ¬ okAt (nds X) k := fun h => (HOD.out.1 h).2.1 hver
          have HB := Lib.hid (HBAD.out hno)
          have hv0 : ((xver : Int) == 0) = true := by rw [beq_iff_eq]; omega
          clear hno hver
          go_wp2
          rw [← HW2.out, ← HG.out]
          go_quiet (fail)
          go_wp2
          go_ret
          exact HB.out _ (HF2.out.drewN _)
        have hv0 : ((xver : Int) == 0) = false := by rw [beq_eq_false_iff_ne]; omega
        by_cases hlc : lenC xk.size m = 0
        · have HL0 : Hid (∀ z, Calls Tryz.prog 157 #[.string xk, .slice xa m xc] z fun e w' => e = .returned (.int .i64 0) ∧ w' = z) := Lib.hid fun z => (HLE.out z).mono fun _ _ h => ⟨by rw [h.1, hlc]; rfl, h.2.symm⟩
          by_cases hk0 : k = 0
          · have hyes : okAt (nds X) k := HOD.out.2 ⟨hlc, hver, fun h => by omega⟩
            have HY := Lib.hid (HNEXT.out hyes)
            have hk1 : ¬ 0 < k := by omega
            clear hyes hlc hver hk0
            go_wp2
            rw [← HW2.out, ← HG.out]
            go_quiet ((go_at_call 157; exact Calls.quiet_of_same (HL0.out _)))
            go_wp2
            go_roundw
            case rel => exact ⟨k + 1, by omega, by go_num, HY, HF2.out.drewN _⟩
            case measure => simp [intOf]; omega
          · have hk1 : 0 < k := by omega
            have e3 := HPV2.out hk1
            have hs2 := HS1.out hk1
            obtain ⟨j, hj⟩ : ∃ j, j = k - 1 := ⟨_, rfl⟩
            rw [← hj] at e3 hs2
            have hjn : j < n := by omega
            have hs3 : (k : Int) - 1 = (j : Int) := by omega
            have HK := Lib.hid (kl_cases pk xk)
            rcases HK.out with ⟨hkl, hb1, hb2⟩ | ⟨hkl, hb1⟩ | ⟨hkl, hb1, hb2⟩
            · have hyes : okAt (nds X) k := HOD.out.2 ⟨hlc, hver, fun _ => hkl⟩
              have HY := Lib.hid (HNEXT.out hyes)
              clear hyes hlc hver hkl hj hk0
              go_wp2
              rw [← HW2.out, ← HG.out]
              go_quiet ((go_at_call 157; exact Calls.quiet_of_same (HL0.out _)))
              go_wp2
              go_roundw
              case rel => exact ⟨k + 1, by omega, by go_num, HY, HF2.out.drewN _⟩
              case measure => simp [intOf]; omega
            · have hno : ¬ okAt (nds X) k := fun h => by have := (HOD.out.1 h).2.2 hk1; rw [hkl] at this; cases this
              have HB := Lib.hid (HBAD.out hno)
              clear hno hlc hver hkl hj hk0
              go_wp2
              rw [← HW2.out, ← HG.out]
              go_quiet ((go_at_call 157; exact Calls.quiet_of_same (HL0.out _)))
              go_wp2
              go_ret
              exact HB.out _ (HF2.out.drewN _)
            · have hno : ¬ okAt (nds X) k := fun h => by have := (HOD.out.1 h).2.2 hk1; rw [hkl] at this; cases this
              have HB := Lib.hid (HBAD.out hno)
              clear hno hlc hver hkl hj hk0
              go_wp2
              rw [← HW2.out, ← HG.out]
              go_quiet ((go_at_call 157; exact Calls.quiet_of_same (HL0.out _)))
              go_wp2
              go_ret
              exact HB.out _ (HF2.out.drewN _)
        · have hno : ¬ okAt (nds X) k := fun h => hlc (HOD.out.1 h).1
          have HB := Lib.hid (HBAD.out hno)
          obtain ⟨lc, hlce⟩ : ∃ lc, lc = lenC xk.size m := ⟨_, rfl⟩
          rw [← hlce] at hlc
          have HL0 : Hid (∀ z, Calls Tryz.prog 157 #[.string xk, .slice xa m xc] z fun e w' => e = .returned (.int .i64 (lc : Nat)) ∧ w' = z) := Lib.hid fun z => (HLE.out z).mono fun _ _ h => ⟨by rw [h.1, hlce], h.2.symm⟩
          have hl0 : ((lc : Int) != 0) = true := by rw [bne_iff_ne]; omega
          clear hno hver hlc hlce
          go_wp2
          rw [← HW2.out, ← HG.out]
          go_quiet ((go_at_call 157; exact Calls.quiet_of_same (HL0.out _)))
          go_wp2
          go_ret
          exact HB.out _ (HF2.out.drewN _)
      · obtain rfl : k = n := by omega
        have HE : Hid (BoolF w (LoadsP (nds X)) (.returned (.bool true)) wr) := Lib.hid ⟨⟨true, rfl, by simp; exact ⟨by rw [nds_len', ← HN.out]; omega, fun i hi => HOK.out i (by rw [nds_len', ← HN.out] at hi; exact hi)⟩⟩, HF.out⟩
        go_wp2
        go_ret
        exact HE.out
end Go.Proofs.YtbdgldlblkflpaaGreat
/- Sessions by their Ids: what right ones are, where one stands, what a book becomes by each call; the program's book in memory. They speak of no function. -/
namespace Go.Proofs.YtbdgldlblkflpaaGreat
open Go.RowKit

/-- Ids rise, from 1 to last. -/
structure SrtS (last : Nat) (X : List Sn) : Prop where
  rise : X.Pairwise (fun a b => a.id < b.id)
  from1 : ∀ x ∈ X, 0 < x.id ∧ x.id ≤ last
theorem getS {X : List Sn} {i : Nat} (h : i < X.length) : X.getD i default = X[i] := by simp [h]
theorem SrtS.lt {last : Nat} {X : List Sn} (h : SrtS last X) {i j : Nat} (hij : i < j) (hj : j < X.length) : (X.getD i default).id < (X.getD j default).id := by
  rw [getS (by omega), getS hj]
  exact List.pairwise_iff_getElem.1 h.rise i j (by omega) hj hij
theorem atS_eq {X : List Sn} {id k : Nat} (hk : k < X.length) (h1 : (X.getD k default).id = id) (h2 : ∀ t, t < k → (X.getD t default).id ≠ id) : atS X id = k := by
  rcases Nat.lt_trichotomy (atS X id) k with h | h | h
  · exact absurd (atS_at (X := X) (id := id) (by omega)) (h2 _ h)
  · exact h
  · exact absurd h1 (atS_before h)
theorem atS_none {X : List Sn} {id : Nat} (h : ∀ t, t < X.length → (X.getD t default).id ≠ id) : ¬ atS X id < X.length := fun h1 => h _ h1 (atS_at h1)
theorem SrtS.nil (last : Nat) : SrtS last [] := ⟨List.Pairwise.nil, by simp⟩
theorem SrtS.sub {last : Nat} {X Y : List Sn} (h : SrtS last X) (hs : Y.Sublist X) : SrtS last Y := ⟨h.rise.sublist hs, fun x hx => h.from1 x (hs.subset hx)⟩
theorem SrtS.push {last : Nat} {X : List Sn} (h : SrtS last X) (s : Sn) (h1 : ∀ x ∈ X, x.id < s.id) (h0 : 0 < s.id) (h2 : s.id ≤ last) : SrtS last (X ++ [s]) := by
  refine ⟨List.pairwise_append.2 ⟨h.rise, List.pairwise_singleton _ _, fun a ha b hb => ?_⟩, fun x hx => ?_⟩
  · simp at hb; subst hb; exact h1 a ha
  · rcases List.mem_append.1 hx with hx | hx
    · exact h.from1 x hx
    · simp at hx; subst hx; exact ⟨h0, h2⟩
theorem SrtS.more {last l' : Nat} {X : List Sn} (h : SrtS last X) (hl : last ≤ l') : SrtS l' X := ⟨h.rise, fun x hx => ⟨(h.from1 x hx).1, Nat.le_trans (h.from1 x hx).2 hl⟩⟩
theorem SrtS.ends {last : Nat} {X : List Sn} (h : SrtS last X) (i : Nat) (e : Nat) (hi : i < X.length) : SrtS last (X.set i { X.getD i default with ends := e }) := by
  have hid : (X.set i { X.getD i default with ends := e }).map Sn.id = X.map Sn.id := by
    rw [List.map_set]
    apply List.ext_getElem
    · simp
    · intro j h1 h2
      simp only [List.getElem_set, List.getElem_map]
      split
      · rename_i hji; subst hji; rw [getS hi]
      · rfl
  refine ⟨?_, fun x hx => ?_⟩
  · have := h.rise
    rw [← List.pairwise_map (f := Sn.id) (R := (· < ·))] at this ⊢
    rw [hid]; exact this
  · have hm : x.id ∈ X.map Sn.id := by rw [← hid]; exact List.mem_map_of_mem hx
    obtain ⟨y, hy, he⟩ := List.mem_map.1 hm
    rw [← he]; exact h.from1 y hy

/-- One session ahead of those behind it: what New asks of it. -/
def CondS (last : Nat) (L : List Sn) (i : Nat) : Prop := 0 < (L.getD i default).id ∧ (L.getD i default).id ≤ last ∧ 1 ≤ (L.getD i default).life ∧ (L.getD i default).life ≤ 1099511627776 ∧ (0 < i → (L.getD (i - 1) default).id < (L.getD i default).id)
instance (last : Nat) (L : List Sn) (i : Nat) : Decidable (CondS last L i) := by unfold CondS; infer_instance
def RightS (last : Nat) (L : List Sn) : Prop := L.length ≤ 16 ∧ ∀ i, i < L.length → CondS last L i
instance (last : Nat) (L : List Sn) : Decidable (RightS last L) := by unfold RightS; infer_instance
theorem RightS.srt {last : Nat} {L : List Sn} (h : RightS last L) : SrtS last L := by
  refine ⟨?_, fun x hx => ?_⟩
  · rw [List.pairwise_iff_getElem]
    intro i j hi hj hij
    have key : ∀ d i, i + d + 1 < L.length → (L.getD i default).id < (L.getD (i + d + 1) default).id := by
      intro d
      induction d with
      | zero => intro i hi2; exact (h.2 (i + 1) hi2).2.2.2.2 (by omega)
      | succ d ih =>
        intro i hi2
        have h1 := ih i (by omega)
        have h2 := (h.2 (i + (d + 1) + 1) hi2).2.2.2.2 (by omega)
        have e : i + (d + 1) + 1 - 1 = i + d + 1 := by omega
        rw [e] at h2
        exact Nat.lt_trans h1 h2
    have := key (j - i - 1) i (by omega)
    rw [show i + (j - i - 1) + 1 = j by omega, getS hi, getS hj] at this
    exact this
  · obtain ⟨i, hi, rfl⟩ := List.getElem_of_mem hx
    have := h.2 i hi
    unfold CondS at this
    rw [getS hi] at this
    exact ⟨this.1, this.2.1⟩

/-- What the calls make of the sessions. -/
def renewS (X : List Sn) (i now : Nat) : List Sn := X.set i { X.getD i default with ends := max (X.getD i default).ends (sumU now (X.getD i default).life) }
def closeS (X : List Sn) (i : Nat) : List Sn := X.take i ++ X.drop (i + 1)
def overS (now : Nat) (x : Sn) : Bool := decide (x.ends ≤ now)
def goneS (now : Nat) (X : List Sn) : List Nat := (X.filter (overS now)).map Sn.id
def leftS (now : Nat) (X : List Sn) : List Sn := X.filter (fun x => !overS now x)
theorem closeS_sub (X : List Sn) (i : Nat) : (closeS X i).Sublist X := by
  have h : (X.drop (i + 1)).Sublist (X.drop i) := List.drop_sublist_drop_left X (by omega)
  have := List.Sublist.append (List.Sublist.refl (X.take i)) h
  rwa [List.take_append_drop] at this
theorem leftS_sub (now : Nat) (X : List Sn) : (leftS now X).Sublist X := List.filter_sublist
theorem sumU_lt (a b : Nat) : sumU a b < 18446744073709551616 := by unfold sumU; split <;> omega
theorem leftS_take {now : Nat} {X : List Sn} {k : Nat} (h : k < X.length) : leftS now (X.take (k + 1)) = leftS now (X.take k) ++ if (X.getD k default).ends ≤ now then [] else [X.getD k default] := by
  rw [getS h]
  unfold leftS
  rw [List.take_succ_eq_append_getElem h, List.filter_append]
  congr 1
  by_cases h1 : X[k].ends ≤ now
  · rw [if_pos h1, List.filter_cons, if_neg (by simpa [overS] using h1)]; rfl
  · rw [if_neg h1, List.filter_cons, if_pos (by simpa [overS] using h1)]; rfl
theorem goneS_take {now : Nat} {X : List Sn} {k : Nat} (h : k < X.length) : goneS now (X.take (k + 1)) = goneS now (X.take k) ++ if (X.getD k default).ends ≤ now then [(X.getD k default).id] else [] := by
  rw [getS h]
  unfold goneS
  rw [List.take_succ_eq_append_getElem h, List.filter_append, List.map_append]
  congr 1
  by_cases h1 : X[k].ends ≤ now
  · rw [if_pos h1, List.filter_cons, if_pos (by simpa [overS] using h1)]; rfl
  · rw [if_neg h1, List.filter_cons, if_neg (by simpa [overS] using h1)]; rfl
theorem leftS_len (now : Nat) (X : List Sn) (k : Nat) : (leftS now (X.take k)).length ≤ k := Nat.le_trans (List.length_filter_le _ _) (by simp; omega)
theorem goneS_len (now : Nat) (X : List Sn) (k : Nat) : (goneS now (X.take k)).length ≤ k := by
  unfold goneS; rw [List.length_map]; exact Nat.le_trans (List.length_filter_le _ _) (by simp; omega)
theorem goneS_mem {now : Nat} {X : List Sn} : ∀ n ∈ goneS now X, ∃ x ∈ X, n = x.id := by
  intro n hn
  obtain ⟨x, hx, rfl⟩ := List.mem_map.1 hn
  exact ⟨x, (List.mem_filter.1 hx).1, rfl⟩

/-! The program's book: a number, a count, sixteen sessions. -/
def bkL (last n : Nat) (Y : List Sn) : List Value := .int .u64 (last : Nat) :: .int .i64 (n : Nat) :: snc Y
theorem bkL_length (last n : Nat) (Y : List Sn) : (bkL last n Y).length = 2 + Y.length * 3 := by simp [bkL, snc_length]; omega
theorem bkL_row (last n : Nat) (Y : List Sn) (j : Nat) : (bkL last n Y)[2 + j]? = (snc Y)[j]? := by
  rw [Nat.add_comm]; rfl
theorem bkL_one (last n : Nat) (Y : List Sn) : ∀ u ∈ bkL last n Y, u.oneCell' = true := by
  intro u hu
  simp only [bkL, List.mem_cons] at hu
  rcases hu with rfl | rfl | hu
  · rfl
  · rfl
  · exact snc_one _ u hu
/-- The program's book at p: the last Id, the sessions X, in the row Y. -/
structure Bk (w : World) (B p : Nat) (t : TypeId) (last : Nat) (X Y : List Sn) : Prop where
  book : Whole w p t (bkL last X.length Y).toArray
  pre : Y.take X.length = X
  len : Y.length = 16
  fits : ∀ y ∈ Y, y.fits
  hp : B ≤ p
  lt : last < 18446744073709551616
  srt : SrtS last X
section
variable {w w' : World} {B p : Nat} {t : TypeId} {F S : List Nat} {last : Nat} {X Y : List Sn}
theorem Bk.few (h : Bk w B p t last X Y) : X.length ≤ 16 := by
  have := congrArg List.length h.pre
  rw [List.length_take, h.len] at this; omega
theorem Bk.keep (h : Bk w B p t last X Y) (hf : Frm S w w') (hS : p ∉ S) : Bk w' B p t last X Y := { h with book := hf.whole h.book hS }
theorem Bk.fitsX (h : Bk w B p t last X Y) : ∀ x ∈ X, x.fits := fun x hx => h.fits x (by rw [← h.pre] at hx; exact List.mem_of_mem_take hx)
theorem Bk.get (h : Bk w B p t last X Y) {i : Nat} (hi : i < X.length) : Y.getD i default = X.getD i default := by
  have hl := h.len
  have hf := h.few
  rw [getS hi, getS (by omega)]
  have e : X[i]? = Y[i]? := by
    conv => lhs; rw [← h.pre]
    rw [List.getElem?_take, if_pos hi]
  rw [List.getElem?_eq_getElem hi, List.getElem?_eq_getElem (by omega)] at e
  exact (Option.some.inj e).symm
theorem Bk.cells (h : Bk w B p t last X Y) (j : Nat) : w.cell? ⟨p, 2 + j, none⟩ = (snc Y)[j]? := by
  rw [h.book.cell, List.getElem?_toArray, bkL_row]
theorem Bk.c0 (h : Bk w B p t last X Y) : w.cell? ⟨p, 0, none⟩ = some (.int .u64 (last : Nat)) := by rw [h.book.cell]; rfl
theorem Bk.c1 (h : Bk w B p t last X Y) : w.cell? ⟨p, 1, none⟩ = some (.int .i64 (X.length : Nat)) := by rw [h.book.cell]; rfl
theorem Bk.vals (h : Bk w B p t last X Y) : ValsAt w (some ⟨p, 2, none⟩) (snc X) := by
  refine .inr ⟨p, 2, rfl, fun i u hu => ?_⟩
  rw [h.cells]
  rw [← h.pre, snc_take, List.getElem?_take] at hu
  split at hu
  · exact hu
  · cases hu
theorem Bk.sl (h : Bk w B p t last X Y) (hF : p ∉ F) : SL w F (some ⟨p, 2, none⟩) X := ⟨h.vals, h.fitsX, fun _ q hq => by cases hq; exact hF⟩
theorem Bk.at (h : Bk w B p t last X Y) {i : Nat} (hi : i < X.length) :
    w.cell? ⟨p, 2 + i * 3, none⟩ = some (.int .u64 ((X.getD i default).id : Nat)) ∧ w.cell? ⟨p, 2 + i * 3 + 1, none⟩ = some (.int .u64 ((X.getD i default).ends : Nat)) ∧
      w.cell? ⟨p, 2 + i * 3 + 2, none⟩ = some (.int .u64 ((X.getD i default).life : Nat)) ∧ (X.getD i default).fits := by
  have hf := h.few
  obtain ⟨h0, h1, h2⟩ := snc_at Y i (by have := h.len; omega)
  rw [h.get hi] at h0 h1 h2
  refine ⟨by rw [h.cells]; exact h0, by rw [Nat.add_assoc, h.cells]; exact h1, by rw [Nat.add_assoc, h.cells]; exact h2, h.fitsX _ (by rw [getS hi]; exact List.getElem_mem hi)⟩
end
/-- A cell of a row of sessions is set. -/
theorem snc_set (Y : List Sn) (s : Sn) : ∀ i, i < Y.length → (((snc Y).set (i * 3) (.int .u64 (s.id : Nat))).set (i * 3 + 1) (.int .u64 (s.ends : Nat))).set (i * 3 + 2) (.int .u64 (s.life : Nat)) = snc (Y.set i s) := by
  induction Y with
  | nil => intro i hi; simp at hi
  | cons y Y ih =>
    intro i hi
    have e : snc (y :: Y) = .int .u64 (y.id : Nat) :: .int .u64 (y.ends : Nat) :: .int .u64 (y.life : Nat) :: snc Y := rfl
    rcases i with _ | i
    · rfl
    · have := ih i (by simpa using hi)
      have e2 : snc ((y :: Y).set (i + 1) s) = .int .u64 (y.id : Nat) :: .int .u64 (y.ends : Nat) :: .int .u64 (y.life : Nat) :: snc (Y.set i s) := rfl
      rw [e2, ← this, e, show (i + 1) * 3 = i * 3 + 1 + 1 + 1 by omega]
      rfl
theorem snc_ends (Y : List Sn) (i e : Nat) (hi : i < Y.length) : (snc Y).set (i * 3 + 1) (.int .u64 (e : Nat)) = snc (Y.set i { Y.getD i default with ends := e }) := by
  obtain ⟨h0, _, h2⟩ := snc_at Y i hi
  rw [← snc_set Y { Y.getD i default with ends := e } i hi]
  have h3 : i * 3 < (snc Y).length := by rw [snc_length]; omega
  have h4 : i * 3 + 2 < (snc Y).length := by rw [snc_length]; omega
  have e1 : (snc Y).set (i * 3) (.int .u64 ((Y.getD i default).id : Nat)) = snc Y := by
    rw [List.getElem?_eq_getElem h3] at h0
    rw [← Option.some.inj h0]; exact List.set_getElem_self h3
  rw [e1]
  rw [List.set_comm _ _ (by omega)]
  have e2 : (snc Y).set (i * 3 + 2) (.int .u64 ((Y.getD i default).life : Nat)) = snc Y := by
    rw [List.getElem?_eq_getElem h4] at h2
    rw [← Option.some.inj h2]; exact List.set_getElem_self h4
  rw [e2]
end Go.Proofs.YtbdgldlblkflpaaGreat
/- What the calls of a book answer, and what they make of it: in plain words, for the program and for the document alike. -/
namespace Go.Proofs.YtbdgldlblkflpaaGreat
open Go.RowKit

/-- Open: an error's number; what is answered; the last Id; the sessions. -/
def openC (last n life : Nat) : Nat := if 1 ≤ life ∧ life ≤ 1099511627776 then (if n = 16 ∨ last = 18446744073709551615 then 14 else 0) else 63
def openR (last n life : Nat) : Nat := if openC last n life = 0 then last + 1 else 0
def openT (last n life : Nat) : Nat := if openC last n life = 0 then last + 1 else last
def openS (X : List Sn) (last now life : Nat) : List Sn := if openC last X.length life = 0 then X ++ [⟨last + 1, sumU now life, life⟩] else X
/-- Renew. -/
def renewC (X : List Sn) (id now : Nat) : Nat := if atS X id < X.length then (if (X.getD (atS X id) default).ends ≤ now then 15 else 0) else 11
def renewL (X : List Sn) (id now : Nat) : List Sn := if renewC X id now = 0 then renewS X (atS X id) now else X
/-- Close. -/
def closeC (X : List Sn) (id : Nat) : Nat := if atS X id < X.length then 0 else 11
def closeL (X : List Sn) (id : Nat) : List Sn := if atS X id < X.length then closeS X (atS X id) else X

theorem openC_ok {last n life : Nat} (h : openC last n life = 0) : 1 ≤ life ∧ life ≤ 1099511627776 ∧ n ≠ 16 ∧ last ≠ 18446744073709551615 := by
  unfold openC at h
  split at h
  · rename_i h1
    split at h
    · omega
    · rename_i h2
      exact ⟨h1.1, h1.2, fun e => h2 (.inl e), fun e => h2 (.inr e)⟩
  · omega
theorem openS_srt {X : List Sn} {last now life : Nat} (h : SrtS last X) : SrtS (openT last X.length life) (openS X last now life) := by
  unfold openT openS
  by_cases hc : openC last X.length life = 0
  · rw [if_pos hc, if_pos hc]
    exact (h.more (by omega)).push _ (fun x hx => by have := (h.from1 x hx).2; show x.id < last + 1; omega) (by show 0 < last + 1; omega) (Nat.le_refl _)
  · rw [if_neg hc, if_neg hc]; exact h
theorem renewL_srt {X : List Sn} {last id now : Nat} (h : SrtS last X) : SrtS last (renewL X id now) := by
  unfold renewL
  by_cases hc : renewC X id now = 0
  · rw [if_pos hc]
    have hin : atS X id < X.length := by
      unfold renewC at hc
      by_cases h1 : atS X id < X.length
      · exact h1
      · rw [if_neg h1] at hc; omega
    exact h.ends _ _ hin
  · rw [if_neg hc]; exact h
theorem renewL_len {X : List Sn} {id now : Nat} : (renewL X id now).length = X.length := by
  unfold renewL renewS; split <;> simp
theorem closeL_srt {X : List Sn} {last id : Nat} (h : SrtS last X) : SrtS last (closeL X id) := by
  unfold closeL; split
  · exact h.sub (closeS_sub _ _)
  · exact h
theorem fits_push {last now life : Nat} (hlife : life ≤ 1099511627776) (hl : last + 1 < 18446744073709551616) : (⟨last + 1, sumU now life, life⟩ : Sn).fits := ⟨hl, sumU_lt _ _, by show life < _; omega⟩

/-! Cells of a block that a run of stores turns. -/
theorem Whole.puts {g : Nat} {t : TypeId} : ∀ (vs : List Value) (o : Nat) {w : World} {cs : List Value}, Whole w g t cs.toArray → o + vs.length ≤ cs.length → Whole (w.setCells g o vs) g t (cs.take o ++ vs ++ cs.drop (o + vs.length)).toArray ∧ Frm [g] w (w.setCells g o vs)
  | [], o, w, cs, h, _ => by
    refine ⟨?_, Frm.refl _ _⟩
    have e : cs.take o ++ [] ++ cs.drop (o + ([] : List Value).length) = cs := by simp
    rw [e]; exact h
  | v :: vs, o, w, cs, h, hl => by
    have h1 := h.put o v
    rw [List.setIfInBounds_toArray] at h1
    have hlc : o < cs.length := by simp at hl; omega
    obtain ⟨h2, h3⟩ := Whole.puts vs (o + 1) h1 (by simp at hl ⊢; omega)
    refine ⟨?_, ((Frm.refl [g] w).setCell (p := ⟨g, o, none⟩) (.inl (by simp)) v).trans h3 (fun x hx => hx) (fun x hx => .inl hx)⟩
    have e : (cs.set o v).take (o + 1) ++ vs ++ (cs.set o v).drop (o + 1 + vs.length) = cs.take o ++ (v :: vs) ++ cs.drop (o + (v :: vs).length) := by
      rw [List.take_succ_eq_append_getElem (by simpa using hlc), List.take_set_of_le (Nat.le_refl _), List.getElem_set_self, List.drop_set_of_lt (by omega)]
      simp [Nat.add_assoc, Nat.add_comm 1]
    rw [← e]
    exact h2
end Go.Proofs.YtbdgldlblkflpaaGreat
/- The document's book of sessions in memory; contracts of at, Live, SameSessions. (For stage 7.) -/
namespace Go.Proofs.YtbdgldlblkflpaaGreat
open Go.RowKit

/-- The document's book at p: the last Id, the sessions X; its row lies outside p and the blocks F. -/
structure Rb (w : World) (B p : Nat) (F : List Nat) (a : Option Addr) (cap last : Nat) (X : List Sn) : Prop where
  book : Whole w p 44 #[.int .u64 (last : Nat), .slice a X.length cap]
  row : SOwn w B 118 (p :: F) a cap X
  hp : B ≤ p
  out : p ∉ F
  few : X.length ≤ 16
  lt : last < 18446744073709551616
def atSI (X : List Sn) (id : Nat) : Int := if atS X id < X.length then ((atS X id : Nat) : Int) else -1

set_option maxRecDepth 100000 in
set_option maxHeartbeats 1000000 in
theorem rbat_any {w : World} {B p : Nat} {F : List Nat} {a : Option Addr} {cap last : Nat} {X : List Sn} (id : Nat) (h : Rb w B p F a cap last X) :
    Calls Tryz.prog 69 #[.pointer (some ⟨p, 0, none⟩), .int .u64 (id : Nat)] w fun e w' => e = .returned (.int .i64 (atSI X id)) ∧ w = w' := by
  have c1 := h.book.cell 1
  simp at c1
  have hn := h.few
  obtain ⟨n, hnn⟩ : ∃ n, n = X.length := ⟨_, rfl⟩
  rw [← hnn] at c1 hn
  have HR := Lib.hid h.row.sl
  have HN := Lib.hid hnn
  have hle := atS_le X id
  rw [← hnn] at hle
  have hatI : atSI X id = if atS X id < n then ((atS X id : Nat) : Int) else -1 := by unfold atSI; rw [hnn]
  have HAK := Lib.hid (fun h => atS_at (X := X) (id := id) h)
  have HAB := Lib.hid (fun j h => atS_before (X := X) (id := id) (j := j) h)
  obtain ⟨q, hq⟩ : ∃ q, q = atS X id := ⟨_, rfl⟩
  rw [← hq] at hle hatI HAK HAB
  have HAI := Lib.hid hatI
  clear h hnn hatI hq
  go_enter Tryz.func69, Tryz.ntmps69
  go_wp2
  go_loop [5] (fun u => ∃ k : Nat, k ≤ n ∧ k ≤ q ∧ u = .int .i64 (k : Nat)) (fun u => n - (intOf u).toNat)
  case atStart => exact ⟨0, Nat.zero_le _, Nat.zero_le _, rfl⟩
  case round =>
    obtain ⟨k, hk, hkq, rfl⟩ := hrel
    by_cases hlt : k < n
    · obtain ⟨b, off, rfl, p0, _⟩ := HR.out.at (i := k) (by have := HN.out; omega)
      by_cases hkq2 : k = q
      · subst hkq2
        have hkey := HAK.out (by have := HN.out; omega)
        rw [hkey] at p0
        go_wp2
        go_ret
        exact ⟨ret_same (by rw [HAI.out, if_pos hlt]), rfl⟩
      · obtain ⟨K, hK⟩ : ∃ K, K = (X.getD k default).id := ⟨_, rfl⟩
        have hne : ¬ K = id := by rw [hK]; exact HAB.out k (by omega)
        rw [← hK] at p0
        have hnt : ((K : Int) == (id : Int)) = false := by rw [beq_eq_false_iff_ne]; omega
        clear hK hne
        go_wp2
        go_round
        case rel => exact ⟨k + 1, by omega, by omega, by go_num⟩
        case measure => simp [intOf]; omega
    · go_wp2
      go_ret
      exact ⟨ret_same (by rw [HAI.out, if_neg (by omega)]), rfl⟩
/-- Is a session there, in time? -/
def liveS (X : List Sn) (id now : Nat) : Bool := decide (atS X id < X.length) && decide (now < (X.getD (atS X id) default).ends)

set_option maxRecDepth 100000 in
set_option maxHeartbeats 1000000 in
theorem rblive_any {w : World} {B p : Nat} {F : List Nat} {a : Option Addr} {cap last : Nat} {X : List Sn} (id now : Nat) (h : Rb w B p F a cap last X) :
    Calls Tryz.prog 35 #[.pointer (some ⟨p, 0, none⟩), .int .u64 (id : Nat), .int .u64 (now : Nat)] w fun e w' => e = .returned (.bool (liveS X id now)) ∧ w = w' := by
  have hA := rbat_any id h
  have c1 := h.book.cell 1
  simp at c1
  have hn := h.few
  unfold liveS
  by_cases hin : atS X id < X.length
  · obtain ⟨b, off, rfl, p0, p1, p2, _⟩ := h.row.sl.at hin
    have hat : atSI X id = ((atS X id : Nat) : Int) := by unfold atSI; rw [if_pos hin]
    rw [hat] at hA
    rw [decide_eq_true hin, Bool.true_and]
    generalize (X.getD (atS X id) default).ends = ends at p1
    generalize atS X id = q at hA p1 hin
    obtain ⟨n, hnn⟩ : ∃ n, n = X.length := ⟨_, rfl⟩
    rw [← hnn] at c1 hn hin
    have HA := Lib.hid hA
    clear h hA hat hnn p0 p2
    by_cases hnow : now < ends
    · rw [decide_eq_true hnow]
      go_enter Tryz.func35, Tryz.ntmps35
      go_wp2_with ((with_reducible refine HA.out.mono ?_); rintro e w' ⟨rfl, rfl⟩)
      go_ret
      exact ⟨rfl, rfl⟩
    · rw [decide_eq_false hnow]
      go_enter Tryz.func35, Tryz.ntmps35
      go_wp2_with ((with_reducible refine HA.out.mono ?_); rintro e w' ⟨rfl, rfl⟩)
      go_ret
      exact ⟨rfl, rfl⟩
  · have hat : atSI X id = -1 := by unfold atSI; rw [if_neg hin]
    rw [hat] at hA
    rw [decide_eq_false hin, Bool.false_and]
    have HA := Lib.hid hA
    clear h hA hat c1
    go_enter Tryz.func35, Tryz.ntmps35
    go_wp2_with ((with_reducible refine HA.out.mono ?_); rintro e w' ⟨rfl, rfl⟩)
    go_ret
    exact ⟨rfl, rfl⟩
end Go.Proofs.YtbdgldlblkflpaaGreat
/- Contracts of the program's small functions over sessions: over, end, lasts, the comparison, sessions, find. -/
namespace Go.Proofs.YtbdgldlblkflpaaGreat
open Go.RowKit

set_option maxHeartbeats 1000000 in
theorem over_any {w : World} (s : Sn) (now : Nat) :
    Calls Tryz.prog 136 #[s.val, .int .u64 (now : Nat)] w fun e w' => e = .returned (.bool (decide (s.ends ≤ now))) ∧ Frm [] w w' := by
  obtain ⟨i, en, li⟩ := s
  unfold Sn.val
  by_cases h : en ≤ now
  · rw [show decide ((⟨i, en, li⟩ : Sn).ends ≤ now) = true from decide_eq_true h]
    go_enter Tryz.func136, Tryz.ntmps136
    go_wp2
    go_ret
    exact ⟨rfl, (Frm.refl [] w).alloc _⟩
  · rw [show decide ((⟨i, en, li⟩ : Sn).ends ≤ now) = false from decide_eq_false h]
    go_enter Tryz.func136, Tryz.ntmps136
    go_wp2
    go_ret
    exact ⟨rfl, (Frm.refl [] w).alloc _⟩

set_option maxHeartbeats 1000000 in
theorem bkend_any {w : World} (a b : Nat) (ha : a < 18446744073709551616) :
    Calls Tryz.prog 124 #[.int .u64 (a : Nat), .int .u64 (b : Nat)] w fun e w' => e = .returned (.int .u64 (sumU a b : Nat)) ∧ w = w' := by
  obtain ⟨r, hr⟩ : ∃ r, r = 18446744073709551615 - a := ⟨_, rfl⟩
  have hr0 : (18446744073709551615 - (a : Int)) % 18446744073709551616 = (r : Int) := by omega
  have hrw : IntKind.u64.wrap (18446744073709551615 - (a : Int)) = (r : Int) := by rw [← hr0]; simp [IntKind.wrap, IntKind.bits, IntKind.signed]
  obtain ⟨m, hm⟩ : ∃ m, m = min b r := ⟨_, rfl⟩
  have hmin : min (b : Int) (r : Int) = (m : Int) := by omega
  obtain ⟨s, hs⟩ : ∃ s, s = sumU a b := ⟨_, rfl⟩
  have hs2 : a + m = s := by rw [hs]; unfold sumU; split <;> omega
  have hs3 : s < 18446744073709551616 := by rw [hs]; exact sumU_lt _ _
  have hw0 : ((a : Int) + (m : Int)) % 18446744073709551616 = (s : Int) := by omega
  have hw : IntKind.u64.wrap ((a : Int) + (m : Int)) = (s : Int) := by rw [← hw0]; simp [IntKind.wrap, IntKind.bits, IntKind.signed]
  rw [← hs]
  by_cases hbr : (b : Int) ≤ (r : Int)
  · have hbr2 : ¬ (r : Int) < (b : Int) := by omega
    obtain rfl : m = b := by omega
    clear hs hs2 hs3 hm hr ha
    go_enter Tryz.func124, Tryz.ntmps124
    go_wp2
    go_ret
    exact ⟨rfl, rfl⟩
  · have hbr2 : (r : Int) < (b : Int) := by omega
    obtain rfl : m = r := by omega
    clear hs hs2 hs3 hm hr ha
    go_enter Tryz.func124, Tryz.ntmps124
    go_wp2
    go_ret
    exact ⟨rfl, rfl⟩

def lastsS (life : Nat) : Prop := 1 ≤ life ∧ life ≤ 1099511627776
instance (life : Nat) : Decidable (lastsS life) := by unfold lastsS; infer_instance
set_option maxHeartbeats 1000000 in
theorem lasts_any {w : World} (life : Nat) :
    Calls Tryz.prog 123 #[.int .u64 (life : Nat)] w fun e w' => e = .returned (.bool (decide (lastsS life))) ∧ w = w' := by
  unfold lastsS
  by_cases h1 : 1 ≤ life
  · by_cases h2 : life ≤ 1099511627776
    · rw [show decide (1 ≤ life ∧ life ≤ 1099511627776) = true from decide_eq_true ⟨h1, h2⟩]
      have h3 : decide ((1 : Int) ≤ (life : Int)) = true := decide_eq_true (by omega)
      have h4 : decide ((life : Int) ≤ 1099511627776) = true := decide_eq_true (by omega)
      go_enter Tryz.func123, Tryz.ntmps123
      go_wp2
      go_ret
      exact ⟨rfl, rfl⟩
    · rw [show decide (1 ≤ life ∧ life ≤ 1099511627776) = false from decide_eq_false (fun h => h2 h.2)]
      have h3 : decide ((1 : Int) ≤ (life : Int)) = true := decide_eq_true (by omega)
      have h4 : decide ((life : Int) ≤ 1099511627776) = false := decide_eq_false (by omega)
      go_enter Tryz.func123, Tryz.ntmps123
      go_wp2
      go_ret
      exact ⟨rfl, rfl⟩
  · rw [show decide (1 ≤ life ∧ life ≤ 1099511627776) = false from decide_eq_false (fun h => h1 h.1)]
    have h3 : decide ((1 : Int) ≤ (life : Int)) = false := decide_eq_false (by omega)
    go_enter Tryz.func123, Tryz.ntmps123
    go_wp2
    go_ret
    exact ⟨rfl, rfl⟩

theorem isNaN_any {w : World} (a : Nat) : Calls Tryz.prog 180 #[.int .u64 (a : Nat)] w fun e w' => e = .returned (.bool false) ∧ w = w' := by
  go_enter Tryz.func180, Tryz.ntmps180
  go_wp2
  go_ret
  exact ⟨rfl, rfl⟩
def cmpN (a b : Nat) : Int := if a < b then -1 else if b < a then 1 else 0
set_option maxHeartbeats 1000000 in
theorem cmpU_any {w : World} (a b : Nat) : Calls Tryz.prog 169 #[.int .u64 (a : Nat), .int .u64 (b : Nat)] w fun e w' => e = .returned (.int .i64 (cmpN a b)) ∧ w = w' := by
  have h1 := Lib.hid (fun w => isNaN_any (w := w) a)
  have h2 := Lib.hid (fun w => isNaN_any (w := w) b)
  unfold cmpN
  by_cases ha : a < b
  · rw [if_pos ha]
    go_enter Tryz.func169, Tryz.ntmps169
    go_wp2_with ((first | (with_reducible refine (h1.out _).mono ?_) | (with_reducible refine (h2.out _).mono ?_)); rintro e w' ⟨rfl, rfl⟩)
    go_ret
    exact ⟨rfl, rfl⟩
  · rw [if_neg ha]
    by_cases hb : b < a
    · rw [if_pos hb]
      go_enter Tryz.func169, Tryz.ntmps169
      go_wp2_with ((first | (with_reducible refine (h1.out _).mono ?_) | (with_reducible refine (h2.out _).mono ?_)); rintro e w' ⟨rfl, rfl⟩)
      go_ret
      exact ⟨rfl, rfl⟩
    · rw [if_neg hb]
      go_enter Tryz.func169, Tryz.ntmps169
      go_wp2_with ((first | (with_reducible refine (h1.out _).mono ?_) | (with_reducible refine (h2.out _).mono ?_)); rintro e w' ⟨rfl, rfl⟩)
      go_ret
      exact ⟨rfl, rfl⟩
set_option maxHeartbeats 1000000 in
theorem findf_any {w : World} (s : Sn) (id : Nat) : Calls Tryz.prog 168 #[s.val, .int .u64 (id : Nat)] w fun e w' => e = .returned (.int .i64 (cmpN s.id id)) ∧ Frm [] w w' := by
  obtain ⟨i, en, li⟩ := s
  unfold Sn.val
  have h1 := Lib.hid (fun w => cmpU_any (w := w) i id)
  show Calls _ _ _ _ fun e w' => e = .returned (.int .i64 (cmpN i id)) ∧ _
  generalize cmpN i id = c at h1 ⊢
  go_enter Tryz.func168, Tryz.ntmps168
  go_wp2_with ((with_reducible refine (h1.out _).mono ?_); rintro e w' ⟨rfl, rfl⟩)
  go_ret
  exact ⟨rfl, (Frm.refl [] w).alloc _⟩

/-- A slice of the book's array. -/
theorem run_row (w : World) (p n : Nat) (hn : n ≤ 16) : (Instr.sliceAt 198 (.pointer (some ⟨p, 2, none⟩)) none (some (.int .i64 (n : Nat))) none).run Tryz.prog w = .ok (.slice (some ⟨p, 2, none⟩) n 16) w := by
  have he : Tryz.prog.elem 198 = 118 := by kernel_rfl
  have hl : Tryz.prog.arrayLen 198 = 16 := by kernel_rfl
  have hz : ∀ w, (Go.sizeOf 118).run Tryz.prog w = .ok 3 w := fun _ => by kernel_rfl
  have ht : Tryz.prog.underlying 198 = some (.array (Tryz.prog.arrayLen 198) (Tryz.prog.elem 198)) := by kernel_rfl
  rw [run_sliceAt_array_h w _ _ ht .i64 _ (by omega) (by omega), he, hz, hl]
  simp [Result.andThen, slicedAt, Addr.add]

set_option maxHeartbeats 1000000 in
theorem sessions_any {w : World} {B p last : Nat} {X Y : List Sn} (h : Bk w B p 200 last X Y) :
    Calls Tryz.prog 118 #[.pointer (some ⟨p, 0, none⟩)] w fun e w' => e = .returned (.slice (some ⟨p, 2, none⟩) X.length 16) ∧ Frm [] w w' := by
  have c1 := h.c1
  have hn := h.few
  have hrow := fun w => run_row w p X.length hn
  generalize X.length = n at c1 hn hrow ⊢
  clear h
  go_enter Tryz.func118, Tryz.ntmps118
  go_wp2
  go_region
  go_wp2
  go_ret
  exact ⟨rfl, (Frm.refl [] w).drewN _⟩
end Go.Proofs.YtbdgldlblkflpaaGreat
/- Contracts of slices.BinarySearchFunc over sessions, of find and Live. -/
namespace Go.Proofs.YtbdgldlblkflpaaGreat
open Go.RowKit

theorem cmpN_lt (a b : Nat) : decide (cmpN a b < 0) = decide (a < b) := by
  unfold cmpN
  by_cases h : a < b
  · simp [h]
  · rw [if_neg h]; split <;> simp [h]
theorem cmpN_eq (a b : Nat) : (cmpN a b == 0) = decide (a = b) := by
  unfold cmpN
  by_cases h : a < b
  · rw [if_pos h, decide_eq_false (by omega)]; rfl
  · rw [if_neg h]
    by_cases h2 : b < a
    · rw [if_pos h2, decide_eq_false (by omega)]; rfl
    · rw [if_neg h2, decide_eq_true (by omega)]; rfl
/-- What a search for an Id answers: whether it is there, and then where. -/
def FindsS (X : List Sn) (id : Nat) (v : Value) : Prop := ∃ i : Nat, v = .tuple #[.int .i64 (i : Nat), .bool (decide (atS X id < X.length))] ∧ (atS X id < X.length → i = atS X id)
theorem finds_some {X : List Sn} {id : Nat} (h : atS X id < X.length) {v : Value} (hv : FindsS X id v) : v = .tuple #[.int .i64 (atS X id : Nat), .bool true] := by
  obtain ⟨i, rfl, hi⟩ := hv
  rw [decide_eq_true h, hi h]
theorem finds_none {X : List Sn} {id : Nat} (h : ¬ atS X id < X.length) {v : Value} (hv : FindsS X id v) : ∃ i : Nat, v = .tuple #[.int .i64 (i : Nat), .bool false] := by
  obtain ⟨i, rfl, hi⟩ := hv
  rw [decide_eq_false h]; exact ⟨i, rfl⟩

set_option maxRecDepth 100000 in
set_option maxHeartbeats 2000000 in
theorem bkbsearch_any {w : World} {last n cap : Nat} {a : Option Addr} {X : List Sn} (id : Nat) (h : SL w [] a X) (hs : SrtS last X) (hn : n = X.length) (hn16 : n ≤ 16) :
    Calls Tryz.prog 167 #[.slice a n cap, .int .u64 (id : Nat), .func (.func 168) #[] #[]] w
      fun e w' => ∃ v, e = .returned v ∧ FindsS X id v ∧ Frm [] w w' := by
  have HH := Lib.hid h; clear h
  have HS := Lib.hid hs; clear hs
  have HN := Lib.hid hn; clear hn
  go_enter Tryz.func167, Tryz.ntmps167
  go_wp2
  go_loopw [9, 10] (fun s5 s6 wr => ∃ lo hi : Nat, s5 = .int .i64 lo ∧ s6 = .int .i64 hi ∧ lo ≤ hi ∧ hi ≤ n ∧ Hid (∀ t, t < lo → (X.getD t default).id < id) ∧ Hid (∀ t, hi ≤ t → t < n → id ≤ (X.getD t default).id) ∧ Hid (Frm [] w wr)) (fun s5 s6 _ => ((intOf s6).toNat - (intOf s5).toNat))
  case atStart => exact ⟨0, n, rfl, rfl, Nat.zero_le _, Nat.le_refl _, Lib.hid (fun t ht => absurd ht (Nat.not_lt_zero _)), Lib.hid (fun t h1 h2 => by omega), Lib.hid (Frm.refl _ _)⟩
  case round =>
    obtain ⟨lo, hi, rfl, rfl, hlh, hin, HA, HB, HF⟩ := hrel
    by_cases hlt : lo < hi
    · obtain ⟨m, hm⟩ : ∃ m, m = (lo + hi) / 2 := ⟨_, rfl⟩
      have hm1 : lo ≤ m := by omega
      have hm2 : m < hi := by omega
      have hmi : ((lo : Int) + (hi : Int)) / 2 = (m : Int) := by omega
      have hsl := HH.out.keep (F' := []) HF.out (by simp) (by simp)
      obtain ⟨b, off, rfl, p0, p1, p2, _⟩ := hsl.at (i := m) (by have := HN.out; omega)
      obtain ⟨x, hx⟩ : ∃ x, x = X.getD m default := ⟨_, rfl⟩
      rw [← hx] at p0 p1 p2
      have HX := Lib.hid hx; clear hx hsl
      have hC := Lib.hid (fun w => findf_any (w := w) x id)
      have hc2 : decide (cmpN x.id id < 0) = decide (x.id < id) := cmpN_lt _ _
      obtain ⟨c, hc⟩ : ∃ c, c = cmpN x.id id := ⟨_, rfl⟩
      rw [← hc] at hC hc2
      clear hc
      unfold Sn.val at hC
      by_cases hkl : x.id < id
      · rw [decide_eq_true hkl] at hc2
        have HKL := Lib.hid hkl
        clear hkl hm
        go_wp2_with ((with_reducible refine (hC.out _).mono ?_); rintro e w' ⟨rfl, hf'⟩; have HF2 := Lib.hid (HF.out.trans hf' (U := []) (by simp) (by simp)); clear hf')
        go_roundw
        case rel => exact ⟨m + 1, hi, by go_num, rfl, by omega, hin, Lib.hid (fun t h1 => by
            rcases Nat.lt_or_ge t m with h3 | h3
            · have := HS.out.lt h3 (by rw [← HN.out]; omega)
              have h4 := HKL.out
              rw [HX.out] at h4
              omega
            · have : t = m := by omega
              subst this; rw [← HX.out]; exact HKL.out), HB, HF2⟩
        case measure => simp [intOf]; omega
      · rw [decide_eq_false hkl] at hc2
        have HKL := Lib.hid hkl
        clear hkl hm
        go_wp2_with ((with_reducible refine (hC.out _).mono ?_); rintro e w' ⟨rfl, hf'⟩; have HF2 := Lib.hid (HF.out.trans hf' (U := []) (by simp) (by simp)); clear hf')
        go_roundw
        case rel => exact ⟨lo, m, rfl, rfl, by omega, by omega, HA, Lib.hid (fun t h1 h2 => by
            have h4 := HKL.out
            rw [HX.out] at h4
            rcases Nat.lt_or_ge m t with h3 | h3
            · have := HS.out.lt h3 (by rw [← HN.out]; exact h2)
              omega
            · have : t = m := by omega
              subst this; omega), HF2⟩
        case measure => simp [intOf]; omega
    · obtain rfl : hi = lo := by omega
      by_cases hlt2 : hi < n
      · have hsl := HH.out.keep (F' := []) HF.out (by simp) (by simp)
        obtain ⟨b, off, rfl, p0, p1, p2, _⟩ := hsl.at (i := hi) (by have := HN.out; omega)
        obtain ⟨x, hx⟩ : ∃ x, x = X.getD hi default := ⟨_, rfl⟩
        rw [← hx] at p0 p1 p2
        have hfin : FindsS X id (.tuple #[.int .i64 (hi : Nat), .bool (decide (x.id = id))]) := by
          by_cases he : x.id = id
          · have h1 : atS X id = hi := atS_eq (by rw [← HN.out]; exact hlt2) (by rw [← hx]; exact he) (fun t ht => Nat.ne_of_lt (HA.out t ht))
            refine ⟨hi, ?_, fun _ => h1.symm⟩
            rw [h1, decide_eq_true he, decide_eq_true (by rw [← HN.out]; exact hlt2)]
          · have h1 : ¬ atS X id < X.length := atS_none (fun t ht => by
              rcases Nat.lt_trichotomy t hi with h2 | h2 | h2
              · exact Nat.ne_of_lt (HA.out t h2)
              · subst h2; rw [← hx]; exact he
              · have h3 := HS.out.lt h2 ht
                have h4 := HB.out hi (Nat.le_refl _) hlt2
                omega)
            exact ⟨hi, by rw [decide_eq_false he, decide_eq_false h1], fun h => absurd h h1⟩
        have HX := Lib.hid hx; clear hx hsl
        have HFIN := Lib.hid hfin
        have hC := Lib.hid (fun w => findf_any (w := w) x id)
        have hc2 : (cmpN x.id id == 0) = decide (x.id = id) := cmpN_eq _ _
        obtain ⟨c, hc⟩ : ∃ c, c = cmpN x.id id := ⟨_, rfl⟩
        obtain ⟨d, hd⟩ : ∃ d, d = decide (x.id = id) := ⟨_, rfl⟩
        rw [← hc] at hC hc2
        rw [← hd] at hc2 HFIN
        clear hc hd hfin HA HB
        unfold Sn.val at hC
        have hlt3 : (hi : Int) < (n : Int) := by omega
        go_wp2_with ((with_reducible refine (hC.out _).mono ?_); rintro e w' ⟨rfl, hf'⟩; have HF2 := Lib.hid (HF.out.trans hf' (U := []) (by simp) (by simp)); clear hf')
        go_ret2
        exact ⟨_, rfl, HFIN.out, HF2.out⟩
      · have hfin : FindsS X id (.tuple #[.int .i64 (hi : Nat), .bool false]) := by
          have h1 : ¬ atS X id < X.length := atS_none (fun t ht => Nat.ne_of_lt (HA.out t (by have := HN.out; omega)))
          exact ⟨hi, by rw [decide_eq_false h1], fun h => absurd h h1⟩
        have HFIN := Lib.hid hfin
        clear hfin HA HB
        go_wp2
        go_ret2
        exact ⟨_, rfl, HFIN.out, HF.out⟩

set_option maxRecDepth 100000 in
set_option maxHeartbeats 1000000 in
theorem bkfind_any {w : World} {B p last : Nat} {X Y : List Sn} (id : Nat) (h : Bk w B p 200 last X Y) :
    Calls Tryz.prog 135 #[.pointer (some ⟨p, 0, none⟩), .int .u64 (id : Nat)] w fun e w' => ∃ v, e = .returned v ∧ FindsS X id v ∧ Frm [] w w' := by
  have hS := Lib.hid (sessions_any h)
  obtain ⟨n, hn⟩ : ∃ n, n = X.length := ⟨_, rfl⟩
  rw [← hn] at hS
  have HB := Lib.hid (fun (z : World) (hz : Frm [] w z) => bkbsearch_any (w := z) (cap := 16) id ((h.keep hz (by simp)).sl (F := []) (by simp)) h.srt hn (by have := h.few; omega))
  clear h hn
  go_enter Tryz.func135, Tryz.ntmps135
  go_wp2_with fail
  (with_reducible refine hS.out.mono ?_)
  rintro e w1 ⟨rfl, hf1⟩
  have HF1 := Lib.hid hf1; clear hf1
  go_wp2_with fail
  (with_reducible refine (HB.out _ HF1.out).mono ?_)
  rintro e w2 ⟨v, rfl, hv, hf2⟩
  obtain ⟨i, rfl, hi⟩ := hv
  have HF2 := Lib.hid (HF1.out.trans hf2 (U := []) (by simp) (by simp))
  have HV : Hid (FindsS X id (.tuple #[.int .i64 (i : Nat), .bool (decide (atS X id < X.length))])) := Lib.hid ⟨i, rfl, hi⟩
  obtain ⟨d, hd⟩ : ∃ d, d = decide (atS X id < X.length) := ⟨_, rfl⟩
  rw [← hd] at HV ⊢
  clear hi hf2 hd
  go_wp2
  go_ret2
  exact ⟨_, rfl, HV.out, HF2.out⟩

set_option maxRecDepth 100000 in
set_option maxHeartbeats 1000000 in
theorem live_any {w : World} {B p last : Nat} {X Y : List Sn} (id now : Nat) (h : Bk w B p 200 last X Y) :
    Calls Tryz.prog 94 #[.pointer (some ⟨p, 0, none⟩), .int .u64 (id : Nat), .int .u64 (now : Nat)] w fun e w' => e = .returned (.bool (liveS X id now)) ∧ Frm [] w w' := by
  have hFI := Lib.hid (bkfind_any id h)
  unfold liveS
  by_cases hin : atS X id < X.length
  · rw [decide_eq_true hin, Bool.true_and]
    obtain ⟨x, hx⟩ : ∃ x, x = X.getD (atS X id) default := ⟨_, rfl⟩
    have HAT := Lib.hid (fun (z : World) (hz : Frm [] w z) => (h.keep hz (by simp)).at hin)
    rw [← hx] at HAT ⊢
    have hi16 : atS X id < 16 := by have := h.few; omega
    have HIN := Lib.hid hin
    have hov := Lib.hid (fun w => over_any (w := w) x now)
    have hd : decide (now < x.ends) = !decide (x.ends ≤ now) := by
      by_cases h1 : x.ends ≤ now
      · rw [decide_eq_true h1, decide_eq_false (by omega)]; rfl
      · rw [decide_eq_false h1, decide_eq_true (by omega)]; rfl
    rw [hd]
    obtain ⟨o, ho⟩ : ∃ o, o = decide (x.ends ≤ now) := ⟨_, rfl⟩
    rw [← ho] at hov ⊢
    unfold Sn.val at hov
    clear h hin hx hd ho
    go_enter Tryz.func94, Tryz.ntmps94
    go_wp2_with fail
    (with_reducible refine hFI.out.mono ?_)
    rintro e w1 ⟨v, rfl, hv, hf1⟩
    obtain rfl := finds_some HIN.out hv
    obtain ⟨q, hq⟩ : ∃ q, q = atS X id := ⟨_, rfl⟩
    rw [← hq] at HAT hi16 ⊢
    obtain ⟨p0, p1, p2, _⟩ := HAT.out _ hf1
    have HF1 := Lib.hid hf1
    clear hf1 hv hq HAT hFI HIN
    go_wp2_with fail
    (with_reducible refine (hov.out _).mono ?_)
    rintro e w2 ⟨rfl, hf2⟩
    have HF2 := Lib.hid (HF1.out.trans hf2 (U := []) (by simp) (by simp))
    clear hf2
    go_wp2
    go_ret
    exact ⟨rfl, HF2.out⟩
  · rw [decide_eq_false hin, Bool.false_and]
    have HIN := Lib.hid hin
    clear h hin
    go_enter Tryz.func94, Tryz.ntmps94
    go_wp2_with fail
    (with_reducible refine hFI.out.mono ?_)
    rintro e w1 ⟨v, rfl, hv, hf1⟩
    obtain ⟨i, rfl⟩ := finds_none HIN.out hv
    have HF1 := Lib.hid hf1
    clear hf1 hv
    go_wp2
    go_ret
    exact ⟨rfl, HF1.out⟩
end Go.Proofs.YtbdgldlblkflpaaGreat
/- Contracts of live, expired. -/
namespace Go.Proofs.YtbdgldlblkflpaaGreat
open Go.RowKit
set_option maxHeartbeats 1000000 in
theorem mlive_any {w : World} {B p bp last now : Nat} {X Y : List Sn} (id : Nat) (c0 : w.cell? ⟨p, 0, none⟩ = some (.int .u64 (now : Nat))) (c2 : w.cell? ⟨p, 2, none⟩ = some (.pointer (some ⟨bp, 0, none⟩))) (hb : Bk w B bp 200 last X Y) :
    Calls Tryz.prog 61 #[.pointer (some ⟨p, 0, none⟩), .int .u64 (id : Nat)] w fun e w' => e = .returned (.bool (liveS X id now)) ∧ Frm [] w w' := by
  have HL := Lib.hid (fun z (hz : Frm [] w z) => live_any id now (hb.keep hz (by simp)))
  clear hb
  go_enter Tryz.func61, Tryz.ntmps61
  go_wp2
  go_region_with (go_at_call 94; refine (HL.out _ (by repeat (first | exact Frm.refl _ _ | apply Frm.drew | apply Frm.drewN))).mono ?_; rintro e w1 ⟨rfl, hf1⟩)
  all_goals (go_wp2; go_ret; exact ⟨rfl, hf1.undrew⟩)

/-- Is it a session's number, but none that is live? -/
def expB (X : List Sn) (id now : Nat) : Bool := decide (id ≠ 0) && !liveS X id now
set_option maxHeartbeats 1000000 in
theorem mexpired_any {w : World} {B p bp last now : Nat} {X Y : List Sn} (id : Nat) (c0 : w.cell? ⟨p, 0, none⟩ = some (.int .u64 (now : Nat))) (c2 : w.cell? ⟨p, 2, none⟩ = some (.pointer (some ⟨bp, 0, none⟩))) (hb : Bk w B bp 200 last X Y) :
    Calls Tryz.prog 121 #[.pointer (some ⟨p, 0, none⟩), .int .u64 (id : Nat)] w fun e w' => e = .returned (.bool (expB X id now)) ∧ Frm [] w w' := by
  have HL := Lib.hid (mlive_any id c0 c2 hb)
  clear hb
  unfold expB
  by_cases h : id = 0
  · rw [show decide (id ≠ 0) = false by simp [h], Bool.false_and]
    subst h
    go_enter Tryz.func121, Tryz.ntmps121
    go_wp2
    go_ret
    exact ⟨rfl, Frm.refl _ _⟩
  · rw [show decide (id ≠ 0) = true by simp [h], Bool.true_and]
    have hne : ((id : Int) != 0) = true := by rw [bne_iff_ne]; omega
    obtain ⟨b, hb⟩ : ∃ b, b = liveS X id now := ⟨_, rfl⟩
    rw [← hb] at HL ⊢
    clear hb
    go_enter Tryz.func121, Tryz.ntmps121
    go_wp2_with fail
    (with_reducible refine HL.out.mono ?_)
    rintro e w1 ⟨rfl, hf1⟩
    go_wp2
    go_ret
    exact ⟨rfl, hf1⟩
end Go.Proofs.YtbdgldlblkflpaaGreat
/- The keeper's state and its commands in plain words: what a command answers and makes of a state. -/
namespace Go.Proofs.YtbdgldlblkflpaaGreat
open Go.RowKit
/-- Is it a session's number, but none that is live? -/
def expS (S : MS) (id : Nat) : Bool := expB S.ses id S.now
def dropAll : List Nat → List Nd → List Nd
  | [], L => L
  | g :: G, L => dropAll G (keepD g L)
def tickT (now n : Nat) : Nat := min (now + n) 1099511627776
/-- A command's error. -/
def doE (S : MS) (c : MC) : Nat :=
  if c.kind = 1 then (if expS S c.ses = true then 15 else putNC S.nodes c.key c.val c.want)
  else if c.kind = 2 then delN S.nodes c.key c.want
  else if c.kind = 3 then openC S.last S.ses.length c.ticks
  else if c.kind = 4 then (if expS S c.ses = true then 15 else renewC S.ses c.ses S.now)
  else if c.kind = 5 then closeC S.ses c.ses
  else if c.kind = 6 then 0
  else if c.kind = 7 then 0
  else 16
/-- A command's number. -/
def doN (S : MS) (c : MC) : Nat :=
  if c.kind = 1 then (if expS S c.ses = true then 0 else putNR S.nodes c.key c.val c.want)
  else if c.kind = 3 then openR S.last S.ses.length c.ticks
  else if c.kind = 6 then tickT S.now c.ticks
  else 0
/-- The sessions that went. -/
def doG (S : MS) (c : MC) : List Nat := if c.kind = 6 then goneS (tickT S.now c.ticks) S.ses else []
/-- The state behind a command. -/
def doS (S : MS) (c : MC) : MS :=
  if c.kind = 1 then (if expS S c.ses = true then S else { S with nodes := putNL S.nodes c.key c.val c.want c.ses })
  else if c.kind = 2 then { S with nodes := delL S.nodes c.key c.want }
  else if c.kind = 3 then { S with last := openT S.last S.ses.length c.ticks, ses := openS S.ses S.last S.now c.ticks }
  else if c.kind = 4 then (if expS S c.ses = true then S else { S with ses := renewL S.ses c.ses S.now })
  else if c.kind = 5 then { S with ses := closeL S.ses c.ses, nodes := if closeC S.ses c.ses = 0 then keepD c.ses S.nodes else S.nodes }
  else if c.kind = 6 then { S with now := tickT S.now c.ticks, ses := leftS (tickT S.now c.ticks) S.ses, nodes := dropAll (goneS (tickT S.now c.ticks) S.ses) S.nodes }
  else S
/-- A state that may be. -/
structure MOk (S : MS) : Prop where
  now : S.now ≤ 1099511627776
  good : Good S.nodes
  few : S.nodes.length ≤ 256
  ver : ∀ d ∈ S.nodes, d.ver < 18446744073709551616
  own : ∀ d ∈ S.nodes, d.own < 18446744073709551616
  lt : S.last < 18446744073709551616
  right : RightS S.last S.ses
  fits : ∀ x ∈ S.ses, x.fits
/-- Its versions, from 1 to m. -/
def MVer (m : Nat) (S : MS) : Prop := ∀ d ∈ S.nodes, 1 ≤ d.ver ∧ d.ver ≤ m
theorem MOk.first : MOk {} := ⟨by simp, Good.nil, by simp, by simp, by simp, by simp, ⟨by simp, fun i hi => absurd hi (Nat.not_lt_zero _)⟩, by simp⟩
theorem MVer.first (m : Nat) : MVer m {} := fun d hd => by simp at hd
theorem MOk.srt {S : MS} (h : MOk S) : SrtS S.last S.ses := h.right.srt
theorem Good.loads8 {M : List Nd} (h : Good M) (hl : M.length ≤ 256) (hv : ∀ d ∈ M, d.ver ≠ 0) : LoadsP M := by
  refine ⟨hl, fun i hi => ⟨?_, hv _ (by simp [hi]), fun h0 => h.srt.at (by omega) hi⟩⟩
  have := h.lens (M.getD i default) (by simp [hi])
  unfold lenC
  rw [if_neg (by omega), if_neg (by omega)]
theorem MOk.loads {m : Nat} {S : MS} (h : MOk S) (hv : MVer m S) : LoadsP S.nodes := h.good.loads8 h.few (fun d hd => by have := (hv d hd).1; omega)
theorem rightS_of {last : Nat} {X : List Sn} (h : SrtS last X) (hl : X.length ≤ 16) (hlife : ∀ x ∈ X, 1 ≤ x.life ∧ x.life ≤ 1099511627776) : RightS last X := by
  refine ⟨hl, fun i hi => ?_⟩
  have hm : X.getD i default ∈ X := by simp [hi]
  exact ⟨(h.from1 _ hm).1, (h.from1 _ hm).2, (hlife _ hm).1, (hlife _ hm).2, fun h0 => h.lt (by omega) hi⟩
theorem RightS.life {last : Nat} {X : List Sn} (h : RightS last X) : ∀ x ∈ X, 1 ≤ x.life ∧ x.life ≤ 1099511627776 := by
  intro x hx
  obtain ⟨i, hi, rfl⟩ := List.getElem_of_mem hx
  have := h.2 i hi
  rw [← getS hi]
  exact ⟨this.2.2.1, this.2.2.2.1⟩
theorem dropAll_sub : ∀ (G : List Nat) (L : List Nd), (dropAll G L).Sublist L
  | [], _ => List.Sublist.refl _
  | g :: G, L => (dropAll_sub G (keepD g L)).trans List.filter_sublist
theorem Good.sub {L M : List Nd} (h : Good L) (hs : M.Sublist L) : Good M := ⟨h.srt.sublist hs, fun d hd => h.lens d (hs.subset hd)⟩
theorem putNL_mem {L : List Nd} {s : ByteArray} {v : List Nat} {want own m : Nat} (hver : ∀ d ∈ L, 1 ≤ d.ver ∧ d.ver ≤ m) (hm : m < 18446744073709551615) :
    ∀ d ∈ putNL L s v want own, 1 ≤ d.ver ∧ d.ver ≤ m + 1 := by
  intro d hd
  unfold putNL at hd
  by_cases hc : putNC L s v want ≠ 0
  · rw [if_pos hc] at hd
    have := hver d hd; omega
  · rw [if_neg hc] at hd
    have hu : unwC L s want = 0 := by
      unfold putNC at hc
      by_cases h1 : lenC s.size v.length ≠ 0
      · rw [if_pos h1] at hc; exact absurd h1 hc
      · rw [if_neg h1] at hc; omega
    have key : (isN L s = true ∧ (d ∈ L.take (ixN L s) ∨ d.ver = (want + 1) % 18446744073709551616 ∨ d ∈ L.drop (ixN L s + 1))) ∨ (isN L s = false ∧ (d ∈ L.take (ixN L s) ∨ d.ver = 1 ∨ d ∈ L.drop (ixN L s))) := by
      cases his : isN L s
      · right
        rw [his, if_neg (by simp)] at hd
        simp only [List.mem_append, List.mem_cons] at hd
        rcases hd with hd | hd | hd
        · exact ⟨rfl, .inl hd⟩
        · exact ⟨rfl, .inr (.inl (by rw [hd]))⟩
        · exact ⟨rfl, .inr (.inr hd)⟩
      · left
        rw [his, if_pos rfl] at hd
        simp only [List.mem_append, List.mem_cons] at hd
        rcases hd with hd | hd | hd
        · exact ⟨rfl, .inl hd⟩
        · exact ⟨rfl, .inr (.inl (by rw [hd]))⟩
        · exact ⟨rfl, .inr (.inr hd)⟩
    rcases key with ⟨his, hd | hd | hd⟩ | ⟨his, hd | hd | hd⟩
    · have := hver d (List.mem_of_mem_take hd); omega
    · rcases unwC_ok hu with ⟨_, h2, h3⟩ | ⟨h2, _⟩
      · have hix : ixN L s < L.length := by
          unfold isN at his; simp at his; exact his.1
        have := hver (L.getD (ixN L s) default) (by simp [hix])
        rw [h3] at this
        rw [hd, Nat.mod_eq_of_lt (by omega)]; omega
      · rw [his] at h2; cases h2
    · have := hver d (List.mem_of_mem_drop hd); omega
    · have := hver d (List.mem_of_mem_take hd); omega
    · omega
    · have := hver d (List.mem_of_mem_drop hd); omega
theorem putNL_ver {L : List Nd} {s : ByteArray} {v : List Nat} {want own : Nat} (hL : ∀ d ∈ L, d.ver < 18446744073709551616) : ∀ d ∈ putNL L s v want own, d.ver < 18446744073709551616 := by
  intro d hd
  unfold putNL at hd
  split at hd
  · exact hL d hd
  · split at hd
    · simp only [List.mem_append, List.mem_cons] at hd
      rcases hd with hd | rfl | hd
      · exact hL d (List.mem_of_mem_take hd)
      · exact Nat.mod_lt _ (by omega)
      · exact hL d (List.mem_of_mem_drop hd)
    · simp only [List.mem_append, List.mem_cons] at hd
      rcases hd with hd | rfl | hd
      · exact hL d (List.mem_of_mem_take hd)
      · show 1 < _; omega
      · exact hL d (List.mem_of_mem_drop hd)
theorem putNL_own {L : List Nd} {s : ByteArray} {v : List Nat} {want own : Nat} (ho : own < 18446744073709551616) (hL : ∀ d ∈ L, d.own < 18446744073709551616) : ∀ d ∈ putNL L s v want own, d.own < 18446744073709551616 := by
  intro d hd
  unfold putNL at hd
  split at hd
  · exact hL d hd
  · split at hd
    · rename_i his
      have hix : ixN L s < L.length := by
        unfold isN at his; simp at his; exact his.1
      simp only [List.mem_append, List.mem_cons] at hd
      rcases hd with hd | rfl | hd
      · exact hL d (List.mem_of_mem_take hd)
      · exact hL (L.getD (ixN L s) default) (by simp [hix])
      · exact hL d (List.mem_of_mem_drop hd)
    · simp only [List.mem_append, List.mem_cons] at hd
      rcases hd with hd | rfl | hd
      · exact hL d (List.mem_of_mem_take hd)
      · exact ho
      · exact hL d (List.mem_of_mem_drop hd)
theorem putNL_few {L : List Nd} {s : ByteArray} {v : List Nat} {want own : Nat} (h : L.length ≤ 256) : (putNL L s v want own).length ≤ 256 := by
  unfold putNL
  by_cases hc : putNC L s v want ≠ 0
  · rw [if_pos hc]; exact h
  · rw [if_neg hc]
    have hu : unwC L s want = 0 := by
      unfold putNC at hc
      by_cases h1 : lenC s.size v.length ≠ 0
      · rw [if_pos h1] at hc; exact absurd h1 hc
      · rw [if_neg h1] at hc; omega
    have hle := ixN_le L s
    cases his : isN L s
    · rw [if_neg (by simp)]
      rcases unwC_ok hu with ⟨h2, _⟩ | ⟨_, _, h4⟩
      · rw [his] at h2; cases h2
      · simp [List.length_take, List.length_drop]; omega
    · rw [if_pos rfl]
      have hix : ixN L s < L.length := by unfold isN at his; simp at his; exact his.1
      simp [List.length_take, List.length_drop]; omega
theorem delL_sub (L : List Nd) (s : ByteArray) (want : Nat) : (delL L s want).Sublist L := by
  unfold delL
  split
  · have h : (L.drop (ixN L s + 1)).Sublist (L.drop (ixN L s)) := List.drop_sublist_drop_left L (by omega)
    have := List.Sublist.append (List.Sublist.refl (L.take (ixN L s))) h
    rwa [List.take_append_drop] at this
  · exact List.Sublist.refl _
/-- Fewer nodes. -/
theorem MOk.sub {S : MS} {M : List Nd} (h : MOk S) (hs : M.Sublist S.nodes) : MOk { S with nodes := M } :=
  ⟨h.now, h.good.sub hs, Nat.le_trans hs.length_le h.few, fun d hd => h.ver d (hs.subset hd), fun d hd => h.own d (hs.subset hd), h.lt, h.right, h.fits⟩
theorem MOk.sesS {l : Nat} {S : MS} {X : List Sn} (h : MOk S) (hl : l < 18446744073709551616) (hr : RightS l X) (hf : ∀ x ∈ X, x.fits) : MOk { S with last := l, ses := X } := ⟨h.now, h.good, h.few, h.ver, h.own, hl, hr, hf⟩
theorem RightS.sub {last : Nat} {X Y : List Sn} (h : RightS last X) (hs : Y.Sublist X) : RightS last Y :=
  rightS_of (h.srt.sub hs) (Nat.le_trans hs.length_le h.1) (fun x hx => h.life x (hs.subset hx))
/-- What a command leaves is such a state. -/
theorem MOk.does {S : MS} {c : MC} (h : MOk S) (hc : MCOk c) : MOk (doS S c) := by
  have h' := h
  unfold doS
  by_cases k1 : c.kind = 1
  · rw [if_pos k1]
    split
    · exact h'
    · exact ⟨h.now, h.good.put _ _ _ _, putNL_few h.few, putNL_ver h.ver, putNL_own hc.ses h.own, h.lt, h.right, h.fits⟩
  rw [if_neg k1]
  by_cases k2 : c.kind = 2
  · rw [if_pos k2]; exact h'.sub (delL_sub _ _ _)
  rw [if_neg k2]
  by_cases k3 : c.kind = 3
  · rw [if_pos k3]
    have hs := openS_srt (now := S.now) (life := c.ticks) h.srt
    unfold openT openS at hs ⊢
    by_cases ho : openC S.last S.ses.length c.ticks = 0
    · rw [if_pos ho] at hs ⊢
      rw [if_pos ho] at hs ⊢
      obtain ⟨o1, o2, o3, o4⟩ := openC_ok ho
      have hlt := h.lt
      refine h'.sesS (by omega) (rightS_of hs ?_ ?_) ?_
      · have := h.right.1; simp; omega
      · intro x hx
        rcases List.mem_append.1 hx with hx | hx
        · exact h.right.life x hx
        · simp at hx; subst hx; exact ⟨o1, o2⟩
      · intro x hx
        rcases List.mem_append.1 hx with hx | hx
        · exact h.fits x hx
        · simp at hx; subst hx; exact fits_push o2 (by omega)
    · rw [if_neg ho] at hs ⊢
      rw [if_neg ho] at hs ⊢
      exact h'
  rw [if_neg k3]
  by_cases k4 : c.kind = 4
  · rw [if_pos k4]
    split
    · exact h'
    · have hs := renewL_srt (id := c.ses) (now := S.now) h.srt
      have hl := renewL_len (X := S.ses) (id := c.ses) (now := S.now)
      have hmem : ∀ x ∈ renewL S.ses c.ses S.now, x.fits ∧ 1 ≤ x.life ∧ x.life ≤ 1099511627776 := by
        intro x hx
        unfold renewL at hx
        split at hx
        · rename_i h0
          have hin : atS S.ses c.ses < S.ses.length := by
            unfold renewC at h0
            by_cases h1 : atS S.ses c.ses < S.ses.length
            · exact h1
            · rw [if_neg h1] at h0; cases h0
          unfold renewS at hx
          rcases List.mem_or_eq_of_mem_set hx with hx | rfl
          · exact ⟨h.fits x hx, h.right.life x hx⟩
          · have hm : S.ses.getD (atS S.ses c.ses) default ∈ S.ses := by simp [hin]
            have hf := h.fits _ hm
            have hu := sumU_lt S.now (S.ses.getD (atS S.ses c.ses) default).life
            have he := hf.2.1
            have hl2 := h.right.life _ hm
            exact ⟨⟨hf.1, by show max _ _ < _; omega, hf.2.2⟩, hl2.1, hl2.2⟩
        · exact ⟨h.fits x hx, h.right.life x hx⟩
      exact h'.sesS h.lt (rightS_of hs (by rw [hl]; exact h.right.1) fun x hx => (hmem x hx).2) fun x hx => (hmem x hx).1
  rw [if_neg k4]
  by_cases k5 : c.kind = 5
  · rw [if_pos k5]
    have hcs : (closeL S.ses c.ses).Sublist S.ses := by
      unfold closeL; split
      · exact closeS_sub _ _
      · exact List.Sublist.refl _
    have h2 := h'.sesS h.lt (h.right.sub hcs) (fun x hx => h.fits x (hcs.subset hx))
    refine MOk.sub h2 ?_
    split
    · exact List.filter_sublist
    · exact List.Sublist.refl _
  rw [if_neg k5]
  by_cases k6 : c.kind = 6
  · rw [if_pos k6]
    have hcs := leftS_sub (tickT S.now c.ticks) S.ses
    have h2 := h'.sesS h.lt (h.right.sub hcs) (fun x hx => h.fits x (hcs.subset hx))
    have h3 := MOk.sub h2 (dropAll_sub (goneS (tickT S.now c.ticks) S.ses) S.nodes)
    exact ⟨by show tickT _ _ ≤ _; unfold tickT; omega, h3.good, h3.few, h3.ver, h3.own, h3.lt, h3.right, h3.fits⟩
  rw [if_neg k6]
  exact h'
/-- Versions rise one by one. -/
theorem MVer.does {m : Nat} {S : MS} {c : MC} (h : MVer m S) (hm : m < 18446744073709551615) : MVer (m + 1) (doS S c) := by
  have up : ∀ M : List Nd, (∀ d ∈ M, d ∈ S.nodes) → ∀ d ∈ M, 1 ≤ d.ver ∧ d.ver ≤ m + 1 := fun M hM d hd => by have := h d (hM d hd); omega
  unfold doS MVer
  by_cases k1 : c.kind = 1
  · rw [if_pos k1]
    split
    · exact up _ fun d hd => hd
    · exact putNL_mem h hm
  rw [if_neg k1]
  by_cases k2 : c.kind = 2
  · rw [if_pos k2]; exact up _ fun d hd => (delL_sub _ _ _).subset hd
  rw [if_neg k2]
  by_cases k3 : c.kind = 3
  · rw [if_pos k3]; exact up _ fun d hd => hd
  rw [if_neg k3]
  by_cases k4 : c.kind = 4
  · rw [if_pos k4]
    split
    · exact up _ fun d hd => hd
    · exact up _ fun d hd => hd
  rw [if_neg k4]
  by_cases k5 : c.kind = 5
  · rw [if_pos k5]
    refine up _ fun d hd => ?_
    simp only at hd
    split at hd
    · exact (List.mem_filter.1 hd).1
    · exact hd
  rw [if_neg k5]
  by_cases k6 : c.kind = 6
  · rw [if_pos k6]; exact up _ fun d hd => (dropAll_sub _ _).subset hd
  rw [if_neg k6]
  exact up _ fun d hd => hd
/-- What is refused has changed nothing. -/
theorem doS_err {S : MS} {c : MC} (h : doE S c ≠ 0) : doS S c = S := by
  unfold doE at h
  unfold doS
  by_cases k1 : c.kind = 1
  · rw [if_pos k1] at h ⊢
    split at h
    · rename_i he; rw [if_pos he]
    · rename_i he; rw [if_neg he]; unfold putNL; rw [if_pos h]
  rw [if_neg k1] at h ⊢
  by_cases k2 : c.kind = 2
  · rw [if_pos k2] at h ⊢; unfold delL; rw [if_neg h]
  rw [if_neg k2] at h ⊢
  by_cases k3 : c.kind = 3
  · rw [if_pos k3] at h ⊢; unfold openT openS; rw [if_neg h, if_neg h]
  rw [if_neg k3] at h ⊢
  by_cases k4 : c.kind = 4
  · rw [if_pos k4] at h ⊢
    split at h
    · rename_i he; rw [if_pos he]
    · rename_i he; rw [if_neg he]; unfold renewL; rw [if_neg h]
  rw [if_neg k4] at h ⊢
  by_cases k5 : c.kind = 5
  · rw [if_pos k5] at h ⊢
    rw [if_neg h]
    unfold closeC at h
    unfold closeL
    by_cases h1 : atS S.ses c.ses < S.ses.length
    · rw [if_pos h1] at h; exact absurd rfl h
    · rw [if_neg h1]
  rw [if_neg k5] at h ⊢
  by_cases k6 : c.kind = 6
  · rw [if_pos k6] at h; exact absurd rfl h
  rw [if_neg k6]
theorem doG_len {S : MS} {c : MC} (h : MOk S) : (doG S c).length ≤ 16 := by
  unfold doG
  split
  · unfold goneS; rw [List.length_map]; exact Nat.le_trans (List.length_filter_le _ _) h.right.1
  · simp
end Go.Proofs.YtbdgldlblkflpaaGreat
