/- Contract of the reference's List. -/
import Derived.Test.YtchhbmhnjknhaaaRtDel
import Derived.Test.YtchhbmhnjknhaaaTrMath
import Derived.Test.YtchhbmhnjknhaaaOwnVals
namespace Go.Proofs.Ytchhbmhnjknhaaa
open Go.RowKit

/-- Where a node comes among others. -/
def pos (Y : List Nx) (K : ByteArray) : Nat := Y.findIdx (fun y => !kl y.t.k K)
theorem pos_le (Y : List Nx) (K : ByteArray) : pos Y K ≤ Y.length := List.findIdx_le_length
theorem pos_before {Y : List Nx} {K : ByteArray} {j : Nat} (h : j < pos Y K) : kl (Y.getD j default).t.k K = true := by
  have hj : j < Y.length := Nat.lt_of_lt_of_le h (pos_le Y K)
  have := List.not_of_lt_findIdx h
  rw [getD_get hj]
  simpa using this
theorem pos_at {Y : List Nx} {K : ByteArray} (h : pos Y K < Y.length) : kl (Y.getD (pos Y K) default).t.k K = false := by
  have h1 := List.findIdx_getElem (p := fun y : Nx => !kl y.t.k K) (w := h)
  rw [getD_get h]
  have h2 : (!kl Y[pos Y K].t.k K) = true := h1
  simpa using h2
def ins (x : Nx) (Y : List Nx) : List Nx := Y.take (pos Y x.t.k) ++ ([x] ++ Y.drop (pos Y x.t.k))
theorem ins_len (x : Nx) (Y : List Nx) : (ins x Y).length = Y.length + 1 := by
  have := pos_le Y x.t.k
  unfold ins; simp; omega
def preB (P K : ByteArray) : Bool := decide (P.size ≤ K.size) && ((K.extract 0 P.size).toList == P.toList)
def lsN (P : ByteArray) (X : List Nx) : List Nx := X.foldl (fun Y x => if preB P x.t.k = true then ins x Y else Y) []
theorem lsN_take {P : ByteArray} {X : List Nx} {k : Nat} (h : k < X.length) : lsN P (X.take (k + 1)) = if preB P (X.getD k default).t.k = true then ins (X.getD k default) (lsN P (X.take k)) else lsN P (X.take k) := by
  rw [getD_get h]
  unfold lsN
  rw [List.take_succ_eq_append_getElem h, List.foldl_append]
  rfl
theorem lsN_len (P : ByteArray) (X : List Nx) (k : Nat) (h : k ≤ X.length) : (lsN P (X.take k)).length ≤ k := by
  induction k with
  | zero => simp [lsN]
  | succ k ih =>
    have := ih (by omega)
    rw [lsN_take (by omega)]
    split
    · rw [ins_len]; omega
    · omega

def LsRel (w : World) (p : Nat) (F : List Nat) (P : ByteArray) (X : List Nx) (u5 u6 : Value) (wr : World) : Prop :=
  ∃ k a' c', k ≤ X.length ∧ u5 = .slice a' (lsN P (X.take k)).length c' ∧ u6 = .int .i64 (k : Nat) ∧ NOwn wr w.heap.size 44 (p :: F) a' c' (lsN P (X.take k)) ∧ Frm [] w wr
def ListEnd (w : World) (p : Nat) (F : List Nat) (Y : List Nx) (e : Ending) (w' : World) : Prop :=
  ∃ a' c', e = .returned (.slice a' Y.length c') ∧ NOwn w' w.heap.size 44 (p :: F) a' c' Y ∧ Frm [] w w'

set_option maxRecDepth 100000 in
set_option maxHeartbeats 4000000 in
theorem rlist_any {w : World} {B p : Nat} {F : List Nat} {a : Option Addr} {cap : Nat} {X : List Nx} (P : ByteArray) (h : Rt w B p F a cap X) (hF : ∀ x ∈ F, x < w.heap.size) (_hP : P.size ≤ 9223372036854775807) :
    Calls Try.prog 38 #[.pointer (some ⟨p, 0, none⟩), .string P] w (ListEnd w p F (lsN P X)) := by
  obtain ⟨i0, hi, hz0, hz1, hz2⟩ := info_parts Try.info44
  have HI := Lib.hid hi; clear hi
  have HZ0 := Lib.hid hz0; clear hz0
  have HZ1 := Lib.hid hz1; clear hz1
  have HZ2 := Lib.hid hz2; clear hz2
  have hn := h.few
  have HH := Lib.hid h; clear h
  have HPF : Hid (∀ x ∈ p :: F, x < w.heap.size) := Lib.hid fun x hx => by
    rcases List.mem_cons.1 hx with rfl | h1
    · exact HH.out.tree.lt
    · exact hF x h1
  clear hF
  obtain ⟨n, hnn⟩ : ∃ n, n = X.length := ⟨_, rfl⟩
  rw [← hnn] at hn
  have HN := Lib.hid hnn; clear hnn
  go_enter Try.func38, Try.ntmps38
  go_wp2
  go_loopw [5, 6] (fun u5 u6 wr => LsRel w p F P X u5 u6 wr) (fun _ u6 _ => n - (intOf u6).toNat)
  case atStart => exact ⟨0, none, 0, Nat.zero_le _, rfl, rfl, NOwn.nil _ _ _ _, Frm.refl _ _⟩
  case round =>
    obtain ⟨k, a', c', hk, rfl, rfl, hown, hf⟩ := hrel
    have HO := Lib.hid hown; clear hown
    have HF := Lib.hid hf; clear hf
    have c0 := (HF.out.whole HH.out.tree (by simp)).cell 0
    rw [← HN.out] at c0
    simp at c0
    have hYk := lsN_len P X k hk
    by_cases hlt : k < n
    · have hkL : k < X.length := by have := HN.out; omega
      obtain ⟨b, off, rfl, p0, p1, p2, p3, _⟩ := (HH.out.row.nl.keep (F' := p :: F) HF.out (by simp) (fun x h => .inl h)).at hkL
      have hst := lsN_take (P := P) hkL
      have hok := HH.out.row.nl.ok (X.getD k default) (by simp [hkL])
      obtain ⟨Y, hY⟩ : ∃ Y, Y = lsN P (X.take k) := ⟨_, rfl⟩
      rw [← hY] at HO hst hYk ⊢
      obtain ⟨m, hm⟩ : ∃ m, m = Y.length := ⟨_, rfl⟩
      rw [← hm] at hYk ⊢
      have HM := Lib.hid hm; clear hm
      obtain ⟨x, hx⟩ : ∃ x, x = X.getD k default := ⟨_, rfl⟩
      rw [← hx] at p0 p1 p2 p3 hst hok
      obtain ⟨⟨xk, xv, xver, xown⟩, xa, xc⟩ := x
      simp only at p0 p1 p2 p3 hst
      obtain ⟨xm, hxm⟩ : ∃ xm, xm = xv.length := ⟨_, rfl⟩
      rw [← hxm] at p1
      have HKL := Lib.hid hkL
      have HST := Lib.hid hst
      have HOK := Lib.hid hok
      have HXM := Lib.hid hxm
      clear hx hst hok hxm hkL hY hk
      by_cases hsz : xk.size < P.size
      · have hpb : preB P xk = false := by unfold preB; rw [decide_eq_false (by omega)]; rfl
        have hs2 := HST.out
        rw [hpb, if_neg (by simp)] at hs2
        have HS2 := Lib.hid hs2
        clear hs2 hpb
        go_wp2
        go_round
        case rel => exact ⟨k + 1, a', c', HKL.out, by rw [HS2.out, ← HM.out], by go_num, by rw [HS2.out]; exact HO.out, HF.out⟩
        case measure => simp [intOf]; omega
      · have hsz2 : P.size ≤ xk.size := by omega
        by_cases hpre : ((xk.extract 0 P.size).toList == P.toList) = true
        · have hpb : preB P xk = true := by unfold preB; rw [decide_eq_true hsz2, hpre]; rfl
          have hs2 := HST.out
          rw [hpb, if_pos rfl] at hs2
          have hs3 : (ins ⟨⟨xk, xv, xver, xown⟩, xa, xc⟩ Y) = Y.take (pos Y xk) ++ ([⟨⟨xk, xv, xver, xown⟩, xa, xc⟩] ++ Y.drop (pos Y xk)) := rfl
          rw [hs3] at hs2
          have hpl := pos_le Y xk
          have HPB := Lib.hid (fun j h => pos_before (Y := Y) (K := xk) (j := j) h)
          have HPA := Lib.hid (fun h => pos_at (Y := Y) (K := xk) h)
          obtain ⟨q, hq⟩ : ∃ q, q = pos Y xk := ⟨_, rfl⟩
          rw [← hq] at hs2 hpl HPB HPA
          have hqm : q ≤ m := by rw [HM.out]; exact hpl
          have HS2 := Lib.hid hs2
          clear hs2 hs3 hpl hq hpb HST
          go_wp2
          go_loop [8] (fun u8 => ∃ j : Nat, j ≤ q ∧ u8 = .int .i64 (j : Nat)) (fun u8 => m - (intOf u8).toNat)
          case atStart => exact ⟨0, Nat.zero_le _, rfl⟩
          case round =>
            obtain ⟨j, hj, rfl⟩ := hrel
            by_cases hjq : j < q
            · obtain ⟨b2, o2, rfl, y0, _⟩ := (HO.out.nl).at (i := j) (by have := HM.out; omega)
              have hless : Op.bytesLess (Y.getD j default).t.k.toList xk.toList = true := HPB.out j hjq
              generalize (Y.getD j default).t.k = yk at y0 hless
              have hjm : j < m := by omega
              go_wp2
              go_round
              case rel => exact ⟨j + 1, by omega, by go_num⟩
              case measure => simp [intOf]; omega
            · obtain rfl : j = q := by omega
              have hcap : m ≤ c' := by rw [HM.out]; exact HO.out.caps.1
              have hcut1 := fun w => run_head4m Try.underlying27 sizeN w a' m c' j j (Nat.le_refl _) (by omega)
              have hcut2 := fun w => run_cut4 (P := Try.prog) Try.underlying27 sizeN w a' m c' j (j : Int) rfl hqm
              have V1 := Lib.hid (fun (z : World) (hz : Frm [] wr z) => ((HO.out.nl.take j).keep (F' := p :: F) hz (by simp) (fun x h => .inl h)).vals)
              have V2 := Lib.hid (fun (z : World) (hz : Frm [] wr z) => ((HO.out.nl.drop (by rw [← HM.out]; exact hcap) j).keep (F' := p :: F) hz (by simp) (fun x h => .inl h)).vals)
              have hcn : cut4 a' c' j = none → c' - j = 0 := fun h0 => by
                have h1 := HO.out.caps.2.2
                unfold cut4 at h0
                split at h0
                · omega
                · have := h1 (by simpa using h0); omega
              have han : a' = none → j = 0 := fun h0 => by have := HO.out.caps.2.2 h0; omega
              obtain ⟨a2, ha2⟩ : ∃ a2, a2 = cut4 a' c' j := ⟨_, rfl⟩
              obtain ⟨n2, hn2⟩ : ∃ n2, n2 = m - j := ⟨_, rfl⟩
              obtain ⟨c2, hc2⟩ : ∃ c2, c2 = c' - j := ⟨_, rfl⟩
              rw [← ha2, ← hn2, ← hc2] at hcut2
              rw [← ha2] at V2 hcn
              rw [← hc2] at hcn
              have HCN := Lib.hid hcn
              have HAN := Lib.hid han
              have hl1 : (nc (Y.take j)).length = j * 4 := by rw [nc_length, List.length_take, ← HM.out, Nat.min_eq_left hqm]
              have hl2 : (nc (Y.drop j)).length = n2 * 4 := by rw [nc_length, List.length_drop, ← HM.out, hn2]
              have HL1 := Lib.hid hl1
              have HL2 := Lib.hid hl2
              have hfit1 : 1 + n2 ≤ 1000000000 := by omega
              have hfit2 : j + (1 + n2) ≤ 1000000000 := by omega
              have hpos : 0 < 1 + n2 := by omega
              have hsum : j + (1 + n2) = m + 1 := by omega
              have HSUM := Lib.hid hsum
              have HL12 : Hid ((nc [⟨⟨xk, xv, xver, xown⟩, xa, xc⟩] ++ nc (Y.drop j)).length = (1 + n2) * 4) := Lib.hid (by rw [List.length_append, hl2, nc_length, List.length_singleton]; omega)
              have HONE : Hid (∀ u ∈ nc [⟨⟨xk, xv, xver, xown⟩, xa, xc⟩] ++ nc (Y.drop j), u.oneCell' = true) := Lib.hid (fun u hu => (List.mem_append.1 hu).elim (nc_one _ u) (nc_one _ u))
              have HC := Lib.hid hcap
              have f00 : Frm [] wr (wr.alloc (.cells #[.string xk, .slice xa xm xc, .int .u64 (xver : Nat), .int .u64 (xown : Nat)] 44)).drew := ((Frm.refl [] wr).alloc _).drew
              have LIT : Hid ((wr.alloc (.cells #[.string xk, .slice xa xm xc, .int .u64 (xver : Nat), .int .u64 (xown : Nat)] 44)).drew.ownsRow w.heap.size 44 4 (.slice (some ⟨wr.heap.size, 0, none⟩) 1 1) 1 (nc [⟨⟨xk, xv, xver, xown⟩, xa, xc⟩])) := Lib.hid (by
                have h1 : (wr.alloc (.cells #[.string xk, .slice xa xm xc, .int .u64 (xver : Nat), .int .u64 (xown : Nat)] 44)).ownsRow w.heap.size 44 4 (.slice (some ⟨wr.heap.size, 0, none⟩) 1 1) 1 (nc [⟨⟨xk, xv, xver, xown⟩, xa, xc⟩]) := by
                  rw [HXM.out]; exact World.ownsRow_lit wr _ 1 HF.out.size (by unfold maxLen; omega) rfl
                exact h1)
              clear ha2 hn2 hc2 hcn han hl1 hl2 hsum hjq hcap
              have hcase : (¬ j < m) ∨ (j < m ∧ ∃ b2 o2 yk, a' = some ⟨b2, o2, none⟩ ∧ wr.cell? ⟨b2, o2 + j * 4, none⟩ = some (.string yk) ∧ Op.bytesLess yk.toList xk.toList = false) := by
                rcases Nat.lt_or_ge j m with h | h
                · obtain ⟨b2, o2, e, y0, _⟩ := (HO.out.nl).at (i := j) (by have := HM.out; omega)
                  exact .inr ⟨h, b2, o2, _, e, y0, HPA.out (by have := HM.out; omega)⟩
                · exact .inl (by omega)
              rcases hcase with hjm | ⟨hjm, b2, o2, yk, rfl, y0, hless⟩
              all_goals
                go_wp2
                go_region_law (first
                  | (refine step_appS (by rfl) (.tmp 65) (.tmp 68) 27 rfl w.heap.size 44 i0 (.agg #[.string ⟨#[]⟩, .slice none 0 0, .int .u64 0, .int .u64 0]) 4 56 Try.underlying27 HI.out HZ0.out rfl (by decide) HZ1.out HZ2.out (by decide) (.slice (some ⟨wr.heap.size, 0, none⟩) 1 1) 1 _ rfl LIT.out _ n2 c2 _ rfl (V2.out _ f00) HL2.out (nc_one _) HCN.out hfit1 (Nat.le_trans HF.out.size f00.size) (1 + n2) rfl ?_; intro a3 c3 w3 happ3; have A3 := Lib.hid happ3; clear happ3; have f3 : Frm [] wr w3 := f00.grown A3.out.grown (fun g hg => .inr (by simp [Value.ownBlock] at hg; omega)); have O3 := Lib.hid (own_vals A3.out.own))
                  | (refine step_appT (by rfl) (.tmp 57) (.tmp 69) 27 rfl w.heap.size 44 i0 (.agg #[.string ⟨#[]⟩, .slice none 0 0, .int .u64 0, .int .u64 0]) 4 56 Try.underlying27 HI.out HZ0.out rfl (by decide) HZ1.out HZ2.out (by decide) _ j _ rfl (V1.out _ f3) HL1.out _ (1 + n2) c3 _ rfl O3.out HL12.out HONE.out hpos hfit2 (Nat.le_trans HF.out.size f3.size) HAN.out (m + 1) HSUM.out ?_; intro a4 c4 w4 h4 f34 g4; have H4 := Lib.hid h4; have F34 := Lib.hid f34; have G4 := Lib.hid g4; clear h4 f34 g4))
              all_goals
                have hf4 : Frm [] wr w4 := f3.trans F34.out (by simp) (by simp)
                have hb4 : ∀ g ∈ blk a4, wr.heap.size ≤ g := fun g hg => Nat.le_trans f3.size (G4.out g hg)
                have hown4 : NOwn w4 w.heap.size 44 (p :: F) a4 c4 (Y.take j ++ ([⟨⟨xk, xv, xver, xown⟩, xa, xc⟩] ++ Y.drop j)) := by
                  have hlen : (Y.take j ++ ([(⟨⟨xk, xv, xver, xown⟩, xa, xc⟩ : Nx)] ++ Y.drop j)).length = m + 1 := by
                    have h1 := HM.out
                    simp; omega
                  refine ⟨by rw [hlen, nc_append, nc_append]; exact H4.out, fun y hy => ?_, fun g hg hm => by have h1 := hb4 g hg; have h2 := HPF.out g hm; have h3 := HF.out.size; omega⟩
                  have hsub : ∀ z ∈ blk a4 ++ (p :: F), z ∈ (p :: F) ∨ wr.heap.size ≤ z := fun z hz => by
                    rcases List.mem_append.1 hz with h1 | h1
                    · exact .inr (hb4 z h1)
                    · exact .inl h1
                  rcases List.mem_append.1 hy with h1 | h1
                  · exact (HO.out.nl.ok y (List.mem_of_mem_take h1)).keep hf4 (by simp) hsub
                  · rcases List.mem_append.1 h1 with h2 | h2
                    · simp at h2; subst h2
                      exact (HOK.out.keep (F' := p :: F) HF.out (by simp) (fun x h => .inl h)).keep hf4 (by simp) hsub
                    · exact (HO.out.nl.ok y (List.mem_of_mem_drop h2)).keep hf4 (by simp) hsub
                have HREL : Hid (LsRel w p F P X (.slice a4 (m + 1) c4) (.int .i64 ((k + 1 : Nat) : Int)) w4) := Lib.hid (by
                  refine ⟨k + 1, a4, c4, HKL.out, ?_, rfl, by rw [HS2.out]; exact hown4, HF.out.trans hf4 (U := []) (by simp) (by simp)⟩
                  rw [HS2.out]
                  have h1 := HM.out
                  congr 1
                  simp; omega)
                clear hf4 hb4 hown4 A3 O3 H4 F34 G4 f3
                go_wp2
                go_roundw
                case rel => exact HREL.out
                case measure => simp [intOf]; omega
        · have hpb : preB P xk = false := by
            unfold preB
            have : ((xk.extract 0 P.size).toList == P.toList) = false := by simpa using hpre
            rw [this, Bool.and_false]
          have hs2 := HST.out
          rw [hpb, if_neg (by simp)] at hs2
          have HS2 := Lib.hid hs2
          have hpre2 : ((xk.extract 0 P.size).toList == P.toList) = false := by simpa using hpre
          clear hs2 hpb hpre
          go_wp2
          go_round
          case rel => exact ⟨k + 1, a', c', HKL.out, by rw [HS2.out, ← HM.out], by go_num, by rw [HS2.out]; exact HO.out, HF.out⟩
          case measure => simp [intOf]; omega
    · have hkx : X.take k = X := List.take_of_length_le (by have := HN.out; omega)
      have ho := HO.out
      rw [hkx] at ho ⊢
      have HO2 := Lib.hid ho
      clear ho hkx HO hk
      obtain ⟨m, hm⟩ : ∃ m, m = (lsN P X).length := ⟨_, rfl⟩
      rw [← hm]
      have HM := Lib.hid hm; clear hm
      go_wp2
      go_ret
      exact ⟨a', c', by rw [← HM.out]; rfl, HO2.out, HF.out⟩
end Go.Proofs.Ytchhbmhnjknhaaa
