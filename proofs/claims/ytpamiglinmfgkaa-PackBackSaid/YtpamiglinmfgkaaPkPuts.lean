/- PackPuts: for every row of things the law answers true and writes nothing that was there. No condition. -/
import Derived.Test.YtpamiglinmfgkaaPkPutLaw
import Derived.Test.YtpamiglinmfgkaaPkTurned
namespace Go.Proofs.Ytpamiglinmfgkaa
open Go.RowKit

/-- At the head of the loop that turns every byte of x: x is still a row of the call's own. -/
def Spoil (w0 : World) (m : Nat) (a : Option Addr) (cap : Nat) (v : Value) (wr : World) : Prop :=
  ∃ (k : Nat) (c : List Nat), k ≤ m ∧ v = .int .i64 k ∧ c.length = m ∧ (∀ b ∈ c, b < 256) ∧ wr.ownsRow w0.heap.size 5 1 (.slice a m cap) m (c.map u8v) ∧ Frm [] w0 wr

theorem all_says (c : Nat) (hc : c < 256) : bits BinOp.xor IntKind.u8 (c : Int) 255 = ((c ^^^ 255 : Nat) : Int) := u8_xor_nat c 255 hc (by decide)

set_option maxRecDepth 100000 in
set_option maxHeartbeats 4000000 in
theorem packPuts_walk (a : Option Addr) (n cap : Nat) (ts : List Th) (w : World) (h : Things w a ts) (hn : n = ts.length) (hn63 : n ≤ 9223372036854775807) :
    Calls Try.prog 3 #[.slice a n cap] w fun e w' => e = .returned (.bool true) ∧ Below w.heap.size w w' := by
  by_cases hbig : 60 < n ∨ ∃ t ∈ ts, Big t
  · have LB := Lib.hid (fun (w' : World) (h' : Things w' a ts) => long_big a n cap ts w' h' hn hn63 hbig)
    have H := Lib.hid h; clear h hbig hn
    go_enter Try.func3, Try.ntmps3
    go_wp2_with fail
    refine (awake2_any w).mono ?_
    rintro e w1 ⟨rfl, hb⟩
    have HB := Lib.hid hb; clear hb
    go_wp2_with fail
    refine (LB.out w1 (H.out.keep (Frm.ofBelow HB.out))).mono ?_
    rintro e w2 ⟨rfl, hf⟩
    have HF := Lib.hid (hf.below (B := w.heap.size) (by simp) HB.out.size); clear hf
    go_wp2
    go_ret
    exact ⟨rfl, HB.out.trans HF.out⟩
  have h60 : n ≤ 60 := by
    rcases Nat.lt_or_ge 60 n with h' | h'
    · exact absurd (.inl h') hbig
    · exact h'
  have hs : ∀ t ∈ ts, ¬ Big t := fun t ht hb => hbig (.inr ⟨t, ht, hb⟩)
  have LS := Lib.hid (fun (w' : World) (h' : Things w' a ts) => long_small a n cap ts w' h' hn h60 hs)
  have PL := Lib.hid (fun (w' : World) (h' : Things w' a ts) => put_law a n cap ts w' h' hn h60 hs)
  have hlen := encs_len ts hs
  have hm : (encs ts).length ≤ 100000 := by omega
  have H := Lib.hid h; clear h hbig hn hs hlen
  unfold PutLaw at PL
  obtain ⟨E, hE⟩ : ∃ E, E = encs ts := ⟨_, rfl⟩
  rw [← hE] at PL hm
  clear hE
  obtain ⟨m, hmE⟩ : ∃ m, m = E.length := ⟨_, rfl⟩
  have hm' : ∀ {k : Nat}, k = E.length → E.length ≤ 140737488355328 := fun _ => by omega
  go_enter Try.func3, Try.ntmps3
  go_wp2_with fail
  refine (awake2_any w).mono ?_
  rintro e w1 ⟨rfl, hb⟩
  have HB := Lib.hid hb; clear hb
  go_wp2_with fail
  refine (LS.out w1 (H.out.keep (Frm.ofBelow HB.out))).mono ?_
  rintro e w2 ⟨rfl, hf⟩
  have HF := Lib.hid ((Frm.ofBelow HB.out).trans hf (U := []) (by simp) (by simp)); clear hf
  go_wp2_with fail
  refine (PL.out w2 (H.out.keep HF.out)).mono ?_
  rintro e w3 ⟨F, ab, cb, rfl, hst⟩
  have HST := Lib.hid hst; clear hst
  obtain ⟨p, hp⟩ : ∃ p, p = w2.heap.size := ⟨_, rfl⟩
  have hsz : w.heap.size ≤ w2.heap.size := HF.out.size
  rw [← hp] at HST hsz ⊢
  have HP := Lib.hid hp; clear hp
  go_wp2_with fail
  refine (done_any HST.out.wr (by omega)).mono ?_
  rintro e w4 ⟨ax, cx, rfl, hox, hfx⟩
  have h8 : ∀ c ∈ E, c < 256 := HST.out.wr.1
  have H8 := Lib.hid h8; clear h8
  rw [← hmE] at hox ⊢
  have R0 : Spoil w3 m ax cx (.int .i64 (0 : Nat)) w4 := ⟨0, E, Nat.zero_le _, rfl, hmE.symm, H8.out, hox, hfx⟩
  have HR0 := Lib.hid R0
  clear hox hfx R0
  have hmb : m ≤ 100000 := by omega
  have HME := Lib.hid hmE; clear hmE
  obtain ⟨q, hq⟩ : ∃ q, q = w3.heap.size := ⟨_, rfl⟩
  go_wp2
  go_loopw [20] (fun v wr => Spoil w3 m ax cx v wr) (fun v _ => m - (intOf v).toNat)
  case atStart => exact HR0.out
  case round =>
    obtain ⟨k, c, hk, rfl, hc, hc8, hown, hf⟩ := hrel
    have HF5 := Lib.hid hf; clear hf
    by_cases hlt : k < m
    · rcases hown.2 with ⟨h', h0⟩ | ⟨g, cap', cur, hv, hg, _, hnc, _⟩
      · omega
      · injection hv with hv1 hv2 hv3
        subst hv1 hv3
        have cj := hown.cellAt k (by omega)
        rw [getD_map_u8v (by omega)] at cj
        have fj := hown.frozenAt k
        obtain ⟨d, hd⟩ : ∃ d, d = c.getD k 0 := ⟨_, rfl⟩
        have hd8 : d < 256 := by rw [hd]; exact getD_lt hc8 k
        rw [← hd] at cj
        unfold u8v at cj
        have HOWN := Lib.hid hown; clear hown
        have HC8 := Lib.hid hc8; clear hc8
        have HCL := Lib.hid hc; clear hc
        have HG := Lib.hid hg; clear hg
        clear hd
        have hjl : (k : Int) < (m : Int) := by omega
        go_wp2
        go_roundw
        case rel =>
          have hx8 : (d ^^^ 255) < 256 := Nat.xor_lt_two_pow (n := 8) hd8 (by decide)
          have hst := HOWN.out.stored k (.int .u8 ((d ^^^ 255 : Nat) : Int))
          have hset : (c.map u8v).set k (.int .u8 ((d ^^^ 255 : Nat) : Int)) = (c.set k (d ^^^ 255)).map u8v := by rw [List.map_set]; rfl
          rw [hset] at hst
          rw [all_says d hd8]
          refine ⟨k + 1, c.set k (d ^^^ 255), hlt, by go_num, by rw [List.length_set]; exact HCL.out, fun b hb => ?_, hst.1, HF5.out.setCell (.inr HG.out) _⟩
          rcases List.mem_or_eq_of_mem_set hb with h | h
          · exact HC8.out b h
          · omega
        case measure => simp [intOf]; omega
    · obtain rfl : k = m := by omega
      clear hown hc hc8 hk LS PL H HR0 hm hq
      go_wp2
      have hst4 := HST.out.keep HF5.out
      have HST4 := Lib.hid hst4
      have hbb := (own_bytes hst4.own H8.out).1
      have HBB := Lib.hid hbb
      have HFA := Lib.hid (HF.out.trans hst4.frm (U := []) (by simp) (by simp))
      clear hst4 hbb
      have cv : ∀ w', Frm [] wr w' → (convert 26 9 (.slice ab k cb)).run Try.prog w' = .ok (.string (strOf E)) w' := fun w' hf => to_string (hf.bytes HBB.out (by simp)) HME.out
      have DN := Lib.hid (fun (w' : World) (hf : Frm [] wr w') => done_any (HST4.out.wr.keep hf (by simp)) (hm' HME.out))
      have f0 : Frm [] wr wr.drew := (Frm.refl _ _).drew
      go_region_with ((go_at_call 13; refine (DN.out _ f0).mono ?_; rintro e wd ⟨a5, c5, rfl, hod, hfd⟩; have f1 : Frm [] wr wd := f0.trans hfd (by simp) (by simp); have cv2 := to_string (c := c5) (own_bytes hod H8.out).1 rfl))
      all_goals
        clear cv cv2
        go_wp2
        go_ret
        exact ⟨rfl, (HFA.out.trans f1 (U := []) (by simp) (by simp)).below (by simp) (Nat.le_refl _)⟩
end Go.Proofs.Ytpamiglinmfgkaa
