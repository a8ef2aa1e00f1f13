/- TreeMany: the walk. -/
import Derived.Test.YtchhbmhnjknhaaaTrBoth
import Derived.Lib.ConvBytes
import Derived.Laws.Concat
import Derived.IntWalk
namespace Go.Proofs.Ytchhbmhnjknhaaa
open Go.RowKit

def mkey (i : Nat) : ByteArray := (⟨#[109]⟩ : ByteArray) ++ strOf [97 + i / 16, 97 + i % 16]
theorem mkey_size (i : Nat) : (mkey i).size = 3 := by
  unfold mkey
  rw [ByteArray.size_append, strOf_size]
  rfl
theorem mkey_inj {i j : Nat} (hi : i < 256) (hj : j < 256) (h : mkey i = mkey j) : i = j := by
  unfold mkey at h
  have h2 := congrArg (fun b : ByteArray => b.data.toList) h
  simp only [ByteArray.data_append, Array.toList_append] at h2
  have h3 := List.append_cancel_left h2
  have h4 : strOf [97 + i / 16, 97 + i % 16] = strOf [97 + j / 16, 97 + j % 16] := ByteArray.ext (Array.toList_inj.1 h3)
  have h5 := strOf_inj (by simp; omega) (by simp; omega) h4
  simp at h5
  omega
theorem put_fresh {M : List Nd} {s : ByteArray} {o : Nat} (hs1 : 1 ≤ s.size) (hs2 : s.size ≤ 64) (hn : isN M s = false) (hl : M.length < 256) :
    putNC M s [] 0 = 0 ∧ putNR M s [] 0 = 1 ∧ putNL M s [] 0 o = M.take (ixN M s) ++ ⟨s, [], 1, o⟩ :: M.drop (ixN M s) := by
  have hlc : lenC s.size ([] : List Nat).length = 0 := by unfold lenC; rw [if_neg (by omega), if_neg (by simp)]
  have hc : putNC M s [] 0 = 0 := by
    unfold putNC unwC
    rw [if_neg (by omega), hn, if_neg (by simp), if_neg (by omega), if_neg (by omega)]
  refine ⟨hc, by unfold putNR; rw [if_neg (by omega)], ?_⟩
  unfold putNL
  rw [if_neg (by omega), hn, if_neg (by simp)]
def MnRel (w : World) (p q : Nat) (u : Value) (wr : World) : Prop :=
  ∃ (k : Nat) (ta : Option Addr) (tc : Nat) (L : List Nx) (qs : List Nat) (ra : Option Addr) (rc : Nat) (X : List Nx), k ≤ 256 ∧ u = .int .i64 (k : Nat) ∧ Hid (Two w wr p q ta tc L qs ra rc X) ∧ Hid ((nds L).length = k) ∧ Hid (∀ d ∈ nds L, ∃ j, j < k ∧ d.k = mkey j)
def MmRel (w : World) (p q n : Nat) (u : Value) (wr : World) : Prop :=
  ∃ (k : Nat) (ta : Option Addr) (tc : Nat) (L : List Nx) (qs : List Nat) (ra : Option Addr) (rc : Nat) (X : List Nx), k ≤ n ∧ u = .int .i64 (k : Nat) ∧ Hid (Two w wr p q ta tc L qs ra rc X)
theorem Two.pair {w wr w1 w2 : World} {p q : Nat} {ta ra : Option Addr} {tc rc : Nat} {L X : List Nx} {qs : List Nat} {M : List Nd} (h : Two w wr p q ta tc L qs ra rc X) (hM : Good M) (ht : PtTo wr w1 w.heap.size p [q] M) (hr : ∃ X' a' c', Rt w2 w.heap.size q [p] a' c' X' ∧ Alike M X' ∧ Frm [q] w1 w2) :
    ∃ ta' tc' L' qs' ra' rc' X', Two w w2 p q ta' tc' L' qs' ra' rc' X' ∧ nds L' = M := by
  obtain ⟨ta', tc', L', qs', h1, h2, h3, h4, h5⟩ := h.turnP ht
  obtain ⟨X', a', c', k1, k2, k3⟩ := hr
  exact ⟨ta', tc', L', qs', a', c', X', ⟨h1.keep k3 (fun x hx => .inl hx) (fun x hx => .inl hx), k1, by rw [h2]; exact hM, by rw [h2]; exact k2, h5.trans k3 (by simp) (fun x hx => by simp at hx; subst hx; exact .inr h.rt.hp)⟩, h2⟩
theorem cv_frm (w : World) (e : TypeId) (s : ByteArray) : Frm [] w (Lib.bytesWorld w e s) :=
  ⟨rfl, rfl, rfl, by rw [Lib.bytesWorld_size]; omega, fun k hk _ => Lib.bytesWorld_at_old w e s k hk⟩
theorem cv_bytes (w : World) (e : TypeId) (s : ByteArray) (hs : s.size ≤ 9223372036854775807) : Bytes (Lib.bytesWorld w e s) (some ⟨w.heap.size, 0, none⟩) (strL s) := by
  refine ⟨strL_lt s, by rw [strL_length]; exact hs, .inr ⟨_, _, rfl, fun i hi => ?_⟩⟩
  rw [strL_length] at hi
  rw [Nat.zero_add, Lib.bytesWorld_cell w e s i hi]
  have h2 : i < s.data.toList.length := by simpa using hi
  simp [strL, List.getD, hi]

set_option maxRecDepth 100000 in
set_option maxHeartbeats 16000000 in
theorem treeMany_walk (a0 : Option Addr) (n cap0 : Nat) (ss : List ByteArray) (o : Nat) (w : World) (h : ∀ i, i < ss.length → (ss.getD i ⟨#[]⟩).size ≤ 9223372036854775807 ∧ ∃ b off, a0 = some ⟨b, off, none⟩ ∧ w.cell? ⟨b, off + i, none⟩ = some (.string (ss.getD i ⟨#[]⟩))) (hn : n = ss.length) (h63 : n ≤ 9223372036854775807) (ho : o < 18446744073709551616) :
    Calls Try.prog 4 #[.slice a0 n cap0, .int .u64 (o : Nat)] w fun e w' => e = .returned (.bool true) ∧ Below w.heap.size w w' := by
  have HAW := Lib.hid (awake6_any w)
  have H := Lib.hid h; clear h
  have HN := Lib.hid hn; clear hn
  have HOL := Lib.hid ho; clear ho
  go_enter Try.func4, Try.ntmps4
  go_wp2_with fail
  (with_reducible refine HAW.out.mono ?_)
  rintro e w1 ⟨rfl, hb⟩
  have HF1 := Lib.hid (Frm.ofBelow hb); clear hb HAW
  go_wp2_with fail
  refine (new_any w1 [] (by simp)).mono ?_
  rintro e w2 ⟨rfl, hd, hf, hz⟩
  obtain ⟨p, hp⟩ : ∃ p, p = w1.heap.size := ⟨_, rfl⟩
  rw [← hp] at hd ⊢
  have hpw : w.heap.size ≤ p := by rw [hp]; exact HF1.out.size
  obtain ⟨q, hq⟩ : ∃ q, q = w2.heap.size := ⟨_, rfl⟩
  have hT := Two.start hpw hd (HF1.out.trans hf (U := []) (by simp) (by simp)) hq
  have HR0 : Hid (MnRel w p q (.int .i64 (0 : Nat)) (w2.alloc (.cells #[.slice none 0 0] 29))) := Lib.hid ⟨0, _, _, _, _, _, _, _, Nat.zero_le _, rfl, Lib.hid hT, Lib.hid rfl, Lib.hid (by simp [nds])⟩
  have HQ := Lib.hid hq
  clear hd hf hz hp hq hT HF1
  go_wp2
  rw [← HQ.out]
  go_loopw [24] (fun u wr => MnRel w p q u wr) (fun u _ => 256 - (intOf u).toNat)
  case atStart => exact HR0.out
  case round =>
    clear HR0
    obtain ⟨k, ta, tc, L, qs, ra, rc, X, hk, rfl, T, HLEN, HKEYS⟩ := hrel
    by_cases hlt : k < 256
    · have hlt' : (k : Int) < 256 := by omega
      obtain ⟨x1, hx1⟩ : ∃ x1, x1 = 97 + k / 16 := ⟨_, rfl⟩
      obtain ⟨x2, hx2⟩ : ∃ x2, x2 = 97 + k % 16 := ⟨_, rfl⟩
      obtain ⟨o5, ho5⟩ : ∃ o5, o5 = k % 5 := ⟨_, rfl⟩
      have e1 : (97 : Int) + (k : Int) / 16 = (x1 : Int) := by omega
      have e2 : (97 : Int) + (k : Int) % 16 = (x2 : Int) := by omega
      have e3 : (x1 : Int) % 256 = (x1 : Int) := by omega
      have e4 : (x2 : Int) % 256 = (x2 : Int) := by omega
      have e5 : (k : Int) % 5 = (o5 : Int) := by omega
      have e6 : (o5 : Int) % 18446744073709551616 = (o5 : Int) := by omega
      have e7 : IntKind.u64.wrap (o5 : Int) = (o5 : Int) := by simp [IntKind.wrap, IntKind.bits, IntKind.signed]; omega
      have e8 : IntKind.u8.wrap (x1 : Int) = (x1 : Int) := IntWalk.u8_in _ (by omega)
      have e9 : IntKind.u8.wrap (x2 : Int) = (x2 : Int) := IntWalk.u8_in _ (by omega)
      obtain ⟨wl, hwl⟩ : ∃ wl, wl = wr.alloc (.cells #[.int .u8 (x1 : Nat), .int .u8 (x2 : Nat)] 5) := ⟨_, rfl⟩
      have hfl : Frm [] wr wl := by rw [hwl]; exact (Frm.refl _ _).alloc _
      have hbl : Bytes wl (some ⟨wr.heap.size, 0, none⟩) [x1, x2] := by
        rw [hwl]
        refine ⟨by simp; omega, by simp, .inr ⟨_, _, rfl, fun i hi => ?_⟩⟩
        rw [cell_of_row _ wr.heap.size _ #[.int .u8 (x1 : Nat), .int .u8 (x2 : Nat)] 5 (0, 0) (heap_alloc_new wr _)]
        have h2 : i = 0 ∨ i = 1 := by simp at hi; omega
        rcases h2 with rfl | rfl <;> rfl
      have cv := run_to_string (P := Try.prog) (src := 30) (dst := 9) (e := 5) Try.underlying30 Try.underlying5 Try.underlying9 (n := 2) (c := 2) hbl rfl
      rw [hwl] at cv
      obtain ⟨sk, hsk⟩ : ∃ sk, sk = strOf [x1, x2] := ⟨_, rfl⟩
      rw [← hsk] at cv
      have hsz : sk.size = 2 := by rw [hsk, strOf_size]; rfl
      obtain ⟨Ky, hKy⟩ : ∃ Ky : ByteArray, Ky = (⟨#[109]⟩ : ByteArray) ++ sk := ⟨_, rfl⟩
      have hKm : Ky = mkey k := by rw [hKy, hsk, hx1, hx2]; rfl
      have hK3 : Ky.size = 3 := by rw [hKm, mkey_size]
      have hadd := fun (w : World) => run_string_add_sum (P := Try.prog) (w := w) (⟨#[109]⟩ : ByteArray) sk (by rw [hsz]; show 1 + 2 ≤ _; omega)
      rw [← hKy] at hadd
      have Tl := Lib.hid (T.out.keep hfl)
      have hno : isN (nds L) Ky = false := by
        cases his : isN (nds L) Ky with
        | false => rfl
        | true =>
          obtain ⟨d, hd1, hd2⟩ := (isN_iff T.out.good.srt).1 his
          obtain ⟨j, hj1, hj2⟩ := HKEYS.out d hd1
          have := mkey_inj (i := k) (j := j) hlt (by omega) (by rw [← hKm, ← hd2, hj2])
          omega
      have hpf := put_fresh (o := o5) (M := nds L) (by omega) (by omega) hno (by rw [HLEN.out]; exact hlt)
      have HPU := put_any Ky none 0 0 [] 0 o5 Tl.out.pt Tl.out.good (fun x hx => by simp at hx; subst hx; exact Tl.out.rt.tree.lt) ⟨by simp, by simp, .inl rfl⟩ rfl (fun _ => rfl) (by omega) (by omega) (by omega)
      rw [hpf.1, hpf.2.1] at HPU
      rw [show ((0 : Nat) : Int) = 0 from rfl, show ((1 : Nat) : Int) = 1 from rfl] at HPU
      have HPU := Lib.hid HPU
      have HPF := Lib.hid hpf
      have HKM := Lib.hid hKm
      have HK3 := Lib.hid hK3
      have HO5 : Hid (o5 < 18446744073709551616) := Lib.hid (by omega)
      have HLT := Lib.hid hlt
      have HWL := Lib.hid hwl
      clear hx1 hx2 ho5 hfl hbl hwl hsk hKy hKm hK3 hno hpf
      go_wp2_with fail
      rw [← HWL.out]
      (with_reducible refine HPU.out.mono ?_)
      rintro e w3 ⟨rfl, hto⟩
      obtain ⟨ta', tc', L', qs', u1, u2, u3, u4, u5⟩ := Tl.out.turnP hto
      have HTO := Lib.hid hto
      have HRP := rput_like Ky none 0 0 [] 0 o5 u3 Tl.out.alike Tl.out.good (fun x hx => by simp at hx; subst hx; exact u1.tree.lt) ⟨by simp, by simp, .inl rfl⟩ rfl (fun _ => rfl) (by have := HK3.out; omega) (by omega) HO5.out
      rw [HPF.out.1, HPF.out.2.1] at HRP
      rw [show ((0 : Nat) : Int) = 0 from rfl, show ((1 : Nat) : Int) = 1 from rfl] at HRP
      have HRP := Lib.hid HRP
      clear hto u1 u2 u3 u4 u5 HPU
      go_wp2_with fail
      (with_reducible refine HRP.out.mono ?_)
      rintro e w4 ⟨rfl, hr4⟩
      obtain ⟨ta2, tc2, L2, qs2, ra2, rc2, X2, T2, hn2⟩ := Tl.out.pair (Tl.out.good.put _ _ _ _) HTO.out hr4
      have HREL : Hid (MnRel w p q (.int .i64 ((k + 1 : Nat) : Int)) w4) := Lib.hid ⟨k + 1, ta2, tc2, L2, qs2, ra2, rc2, X2, HLT.out, rfl, Lib.hid T2, Lib.hid (by
        rw [hn2, HPF.out.2.2]
        have h1 := HLEN.out
        have h2 := ixN_le (nds L) Ky
        simp; omega), Lib.hid (fun d hd => by
        rw [hn2, HPF.out.2.2] at hd
        rcases List.mem_append.1 hd with h1 | h1
        · obtain ⟨j, hj, e⟩ := HKEYS.out d (List.mem_of_mem_take h1); exact ⟨j, by omega, e⟩
        · rcases List.mem_cons.1 h1 with rfl | h1
          · exact ⟨k, by omega, HKM.out⟩
          · obtain ⟨j, hj, e⟩ := HKEYS.out d (List.mem_of_mem_drop h1); exact ⟨j, by omega, e⟩)⟩
      clear hr4 T2 hn2 HRP
      go_wp2
      go_roundw
      case rel => exact HREL.out
      case measure => simp [intOf]; omega
    · have HR1 : Hid (MmRel w p q n (.int .i64 (0 : Nat)) wr) := Lib.hid ⟨0, _, _, _, _, _, _, _, Nat.zero_le _, rfl, T⟩
      go_wp2
      clear hlt hk
      go_loopw [71] (fun u wr => MmRel w p q n u wr) (fun u _ => n - (intOf u).toNat)
      case atStart => exact HR1.out
      case round =>
        clear HR1 T HLEN HKEYS
        obtain ⟨k, ta, tc, L, qs, ra, rc, X, hk, rfl, T⟩ := hrel
        have HSH := Lib.hid (shows_any T.out)
        by_cases hlt : k < n
        · obtain ⟨hsz, b, off, rfl, c0w⟩ := H.out k (by have := HN.out; omega)
          have c0 := (T.out.frm.cell (block_lt_of_cell c0w) (by simp)).trans c0w
          generalize ss.getD k ⟨#[]⟩ = s at c0 hsz
          clear c0w
          by_cases hbrk : 8 < k ∨ 200 < s.size
          · have hb' : 8 < k ∨ (¬ 8 < k ∧ 200 < s.size) := by omega
            clear hbrk
            rcases hb' with h1 | ⟨h1, h2⟩
            all_goals
              go_wp2_with fail
              (with_reducible refine HSH.out.mono ?_)
              rintro e w3 ⟨rfl, hf3⟩
              have HF3 := Lib.hid (T.out.frm.trans hf3 (U := []) (by simp) (by simp))
              clear hf3
              go_wp2
              go_ret
              exact ⟨rfl, HF3.out.below (by simp) (Nat.le_refl _)⟩
          have h1 : ¬ 8 < k := by omega
          have h2 : ¬ 200 < s.size := by omega
          clear hbrk HSH
          have hcv := fun (w : World) => Lib.run_convert_string_bytes (P := Try.prog) w 9 30 5 s Try.underlying9 Try.underlying30 Try.underlying5
          have Tc := Lib.hid (T.out.keep (cv_frm wr 5 s))
          have HLT := Lib.hid hlt
          have HSZ := Lib.hid hsz
          obtain ⟨pr, hpr⟩ : ∃ pr, pr = putNR (nds L) s (strL s) 0 := ⟨_, rfl⟩
          obtain ⟨pc, hpc⟩ : ∃ pc, pc = putNC (nds L) s (strL s) 0 := ⟨_, rfl⟩
          have HPU := fun c => put_any s (some ⟨wr.heap.size, 0, none⟩) s.size c (strL s) 0 o Tc.out.pt Tc.out.good (fun x hx => by simp at hx; subst hx; exact Tc.out.rt.tree.lt) (cv_bytes wr 5 s hsz) (strL_length s).symm (by simp) hsz (by omega) HOL.out
          rw [← hpr, ← hpc, show ((0 : Nat) : Int) = 0 from rfl] at HPU
          have HPU := Lib.hid HPU
          have HPR := Lib.hid hpr
          have HPC := Lib.hid hpc
          clear hpr hpc hsz
          go_wp2_with fail
          (with_reducible refine (HPU.out _).mono ?_)
          rintro e w3 ⟨rfl, hto⟩
          obtain ⟨ta', tc', L', qs', u1, u2, u3, u4, u5⟩ := Tc.out.turnP hto
          have HTO := Lib.hid hto
          have u1c := u1.keep (F' := [q]) (cv_frm w3 5 s) (by simp) (fun x hx => .inl hx)
          have u3c : Rt (Lib.bytesWorld w3 5 s) w.heap.size q [p] ra rc X := ⟨(cv_frm w3 5 s).whole u3.tree (by simp), u3.row.keep (cv_frm w3 5 s) (by simp) (fun x hx => .inl hx), u3.hp, u3.out, u3.few⟩
          have HRP := fun c => rput_like s (some ⟨w3.heap.size, 0, none⟩) s.size c (strL s) 0 o u3c Tc.out.alike Tc.out.good (fun x hx => by simp at hx; subst hx; exact u1c.tree.lt) (cv_bytes w3 5 s HSZ.out) (strL_length s).symm (by simp) HSZ.out (by omega) HOL.out
          rw [← HPR.out, ← HPC.out, show ((0 : Nat) : Int) = 0 from rfl] at HRP
          have HRP := Lib.hid HRP
          have HU : Hid (∃ x1 x2 x3 x4, Pt (Lib.bytesWorld w3 5 s) w.heap.size p [q] x1 x2 x3 x4 ∧ nds x3 = putNL (nds L) s (strL s) 0 o) := Lib.hid ⟨ta', tc', L', qs', u1c, u2⟩
          have HFC := Lib.hid (u5.trans (cv_frm w3 5 s) (U := []) (by simp) (by simp))
          clear hto u1 u2 u3 u4 u5 u1c u3c HPU
          go_wp2_with fail
          (with_reducible refine (HRP.out _).mono ?_)
          rintro e w4 ⟨rfl, X4, a4, c4, r1, r2, r3⟩
          have hT4 : ∃ y1 y2 y3 y4 y5 y6 y7, Two w w4 p q y1 y2 y3 y4 y5 y6 y7 := by
            obtain ⟨x1, x2, x3, x4, v1, v2⟩ := HU.out
            exact ⟨x1, x2, x3, x4, a4, c4, X4, ⟨v1.keep r3 (fun x hx => .inl hx) (fun x hx => .inl hx), r1, by rw [v2]; exact Tc.out.good.put _ _ _ _, by rw [v2]; exact r2, HFC.out.trans r3 (by simp) (fun x hx => by simp at hx; subst hx; exact .inr r1.hp)⟩⟩
          obtain ⟨y1, y2, y3, y4, y5, y6, y7, hT4⟩ := hT4
          have T4 := Lib.hid hT4
          clear r1 r2 r3 hT4 HRP HU hcv
          by_cases hodd : k % 2 = 1
          · have g1 : (k : Int) % 2 = 1 := by omega
            have HDR := Lib.hid (drop_any o T4.out.pt (fun x hx => by simp at hx; subst hx; exact T4.out.rt.tree.lt))
            clear hodd
            go_wp2_with fail
            (with_reducible refine HDR.out.mono ?_)
            rintro e w5 ⟨rfl, hto⟩
            obtain ⟨ta', tc', L', qs', u1, u2, u3, u4, u5⟩ := T4.out.turnP hto
            have HTO := Lib.hid hto
            have HRD := Lib.hid (rdrop_like o u3 T4.out.alike (fun x hx => by simp at hx; subst hx; exact u1.tree.lt))
            clear hto u1 u2 u3 u4 u5 HDR
            go_wp2_with fail
            (with_reducible refine HRD.out.mono ?_)
            rintro e w6 ⟨rfl, hr6⟩
            obtain ⟨ta2, tc2, L2, qs2, ra2, rc2, X2, T2, _⟩ := T4.out.pair (T4.out.good.drop o) HTO.out hr6
            have HREL : Hid (MmRel w p q n (.int .i64 ((k + 1 : Nat) : Int)) w6) := Lib.hid ⟨k + 1, _, _, _, _, _, _, _, HLT.out, rfl, Lib.hid T2⟩
            clear hr6 T2 HRD
            go_wp2
            go_roundw
            case rel => exact HREL.out
            case measure => simp [intOf]; omega
          · have g1 : (k : Int) % 2 = 0 := by omega
            have HREL : Hid (MmRel w p q n (.int .i64 ((k + 1 : Nat) : Int)) w4) := Lib.hid ⟨k + 1, _, _, _, _, _, _, _, HLT.out, rfl, T4⟩
            clear hodd
            go_wp2
            go_roundw
            case rel => exact HREL.out
            case measure => simp [intOf]; omega
        · obtain rfl : k = n := by omega
          go_wp2_with fail
          (with_reducible refine HSH.out.mono ?_)
          rintro e w3 ⟨rfl, hf3⟩
          have HF3 := Lib.hid (T.out.frm.trans hf3 (U := []) (by simp) (by simp))
          clear hf3
          go_wp2
          go_ret
          exact ⟨rfl, HF3.out.below (by simp) (Nat.le_refl _)⟩
end Go.Proofs.Ytchhbmhnjknhaaa
