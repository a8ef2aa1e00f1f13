/- PackTurned: for every two slices of bytes and every two ints the law answers true and writes nothing that was there. No condition. -/
import Derived.Test.YtpamiglinmfgkaaPkTurnMath
import Derived.Test.YtpamiglinmfgkaaPkFrames
namespace Go.Proofs.Ytpamiglinmfgkaa
open Go.RowKit

theorem u64_nat (n : Int) : ∃ x : Nat, IntKind.u64.wrap n = (x : Int) ∧ x < 18446744073709551616 := by
  have h0 := wrap_u64_nonneg n
  have h1 : IntKind.u64.wrap n < 18446744073709551616 := by simp [IntKind.wrap, IntKind.bits, IntKind.signed]; omega
  exact ⟨(IntKind.u64.wrap n).toNat, by omega, by omega⟩

theorem turn_says (c i : Nat) (hc : c < 256) (hi : i < 8) : bits BinOp.xor IntKind.u8 (c : Int) (2 ^ i % 256) = ((c ^^^ 2 ^ i : Nat) : Int) := by
  have h1 : (2 : Nat) ^ i < 256 := Nat.pow_lt_pow_right (m := i) (n := 8) (by decide) hi
  have e : (2 ^ i % 256 : Int) = ((2 ^ i : Nat) : Int) := by
    have : ((2 : Int) ^ i) = ((2 ^ i : Nat) : Int) := by simp
    rw [this]
    generalize (2 : Nat) ^ i = p at h1
    omega
  rw [e, u8_xor_nat c (2 ^ i) hc h1]

set_option maxRecDepth 100000 in
set_option maxHeartbeats 4000000 in
theorem packTurned_walk (a0 : Option Addr) (len0 cap0 : Nat) (z0 : List Int) (a1 : Option Addr) (len1 cap1 : Nat) (z1 : List Int) (a2 : Int) (a3 : Int) (w : World) (w0 : RowIn .u8 w a0 len0 cap0 z0) (w1 : RowIn .u8 w a1 len1 cap1 z1) (_w2 : (Lit.int .i64 a2).wf = true) (_w3 : (Lit.int .i64 a3).wf = true) :
    Calls Try.prog 7 #[.slice a0 len0 cap0, .slice a1 len1 cap1, .int .i64 a2, .int .i64 a3] w fun e w' => e = .returned (.bool true) ∧ Below w.heap.size w w' := by
  obtain ⟨l, hn, hl, hlc, hnil⟩ := rows w0
  obtain ⟨m, hnm, hlm, hlcm, hnilm⟩ := rows w1
  have b0 : len0 ≤ 9223372036854775807 := by have := hl.2.1; omega
  have b1 : len1 ≤ 9223372036854775807 := by have := hlm.2.1; omega
  clear w0 w1 _w2 _w3
  obtain ⟨i0, hi, hz0, hz1, hz2⟩ := info_parts Try.info5
  have HI := Lib.hid hi; clear hi
  have HZ0 := Lib.hid hz0; clear hz0
  have HZ1 := Lib.hid hz1; clear hz1
  have HZ2 := Lib.hid hz2; clear hz2
  by_cases hg : len0 ≤ 4096 ∧ len1 ≤ 1000
  · obtain ⟨g0, g1⟩ := hg
    obtain ⟨x2, hx2, hx2b⟩ := u64_nat a2
    obtain ⟨x3, hx3, hx3b⟩ := u64_nat a3
    have FR := Lib.hid (fun (w' : World) (hB : Bytes w' a0 l) => frame_ok a0 len0 cap0 l w' hB hn hnil g0)
    have h8f := fr_lt hl.1
    have hfl := fr_length l
    have UF := Lib.hid (u_frame (l := l) m (by omega) hl.1)
    have UCUT := Lib.hid (fun (c : Nat) => u_cut (l := l) c (by omega))
    have UT := Lib.hid (fun (j v : Nat) => u_turned (l := l) j v (by omega) hl.1)
    obtain ⟨F, hF⟩ : ∃ F, F = fr l := ⟨_, rfl⟩
    unfold Framed at FR
    rw [← hF] at FR h8f hfl UF UCUT UT
    clear hF
    obtain ⟨L, hL⟩ : ∃ L, L = F.length := ⟨_, rfl⟩
    rw [← hL] at FR hfl UCUT UT
    have hLb : L ≤ 4104 := by omega
    have hLp : 0 < L := by omega
    obtain ⟨y, hy⟩ : ∃ y, y = x2 % L := ⟨_, rfl⟩
    have hyL : y < L := by rw [hy]; exact Nat.mod_lt _ hLp
    have hy1 : (x2 : Int) % (L : Int) = (y : Int) := by rw [hy]; rfl
    obtain ⟨k, hk⟩ : ∃ k, k = x3 % (8 * L) := ⟨_, rfl⟩
    have hkL : k < 8 * L := by rw [hk]; exact Nat.mod_lt _ (by omega)
    have hk1 : (x3 : Int) % (8 * (L : Int)) = (k : Int) := by rw [hk]; rfl
    have H8F := Lib.hid h8f; clear h8f
    have HFL := Lib.hid hfl; clear hfl
    have HLF := Lib.hid hL; clear hL
    have HL := Lib.hid hl; clear hl
    have HM := Lib.hid hlm; clear hlm
    have HN := Lib.hid hn; clear hn
    have HNM := Lib.hid hnm; clear hnm
    have HNILM := Lib.hid hnilm; clear hnilm
    clear hnil hy hk
    go_enter Try.func7, Try.ntmps7
    go_wp2_with fail
    refine (awake2_any w).mono ?_
    rintro e v0 ⟨rfl, hb0⟩
    have HB0 := Lib.hid hb0; clear hb0
    go_wp2_with fail
    refine (FR.out _ (HL.out.later HB0.out)).mono ?_
    rintro e v1 ⟨af, cf, rfl, hof, hf1⟩
    have HOF := Lib.hid hof; clear hof
    have HB1 : Hid (Below w.heap.size w v1) := HB0.out.trans (hf1.below (by simp) HB0.out.size)
    clear hf1
    have hcl : Cl v1 F af cf := own_cl (by rw [← HLF.out]; exact HOF.out) H8F.out
    have HCL := Lib.hid hcl; clear hcl
    go_wp2_with (at_builtin; refine wpList_app rfl (.tmp 37) (.tmp 38) 26 rfl v1.heap.size 5 i0 Try.underlying26 HI.out HZ0.out HZ1.out HZ2.out (.slice (some ⟨v1.heap.size, 0, none⟩) 0 0) 0 [] rfl ?own1 _ _ _ F rfl ?b1 HLF.out HCL.out.nil ?fit1 ?base1 ?_)
    case own1 => exact World.ownsRow_lit v1 #[] 0 (Nat.le_refl _) (by unfold maxLen; omega) rfl
    case b1 => exact ((Frm.refl [] v1).alloc _).bytes HCL.out.bytes (by simp)
    case fit1 => omega
    case base1 => simp
    intro ab cb v2 happ
    have hfA : Frm [] v1 v2 := ((Frm.refl [] v1).alloc _).grown happ.grown (fun k hk => .inr (by simp [Value.ownBlock] at hk; omega))
    have howA := happ.own
    have HFA := Lib.hid hfA; clear hfA happ
    simp only [Nat.zero_add, List.nil_append] at howA
    obtain ⟨xs, hxs⟩ : ∃ xs, xs = F.map u8v := ⟨_, rfl⟩
    rw [← hxs] at howA
    have HXS := Lib.hid hxs; clear hxs
    have HOA := Lib.hid howA; clear howA
    go_wp2_with (at_builtin; refine wpList_app rfl (.tmp 39) (.tmp 40) 26 rfl v1.heap.size 5 i0 Try.underlying26 HI.out HZ0.out HZ1.out HZ2.out (.slice ab L cb) L xs rfl HOA.out _ _ _ m rfl ?b2 HNM.out HNILM.out ?fit2 ?base2 ?_)
    case b2 => exact HFA.out.bytes (HM.out.later HB1.out) (by simp)
    case fit2 => omega
    case base2 => exact HFA.out.size
    intro ac cc v3 happ
    have hoa := HOA.out
    have hfB : Frm [] v1 v3 := HFA.out.grown happ.grown (fun k hk => .inr (hoa.lt k hk).1)
    have howB := happ.own
    rw [HXS.out, ← List.map_append] at howB
    clear hoa happ
    obtain ⟨G, hG⟩ : ∃ G, G = F ++ m := ⟨_, rfl⟩
    obtain ⟨q, hq⟩ : ∃ q, q = L + len1 := ⟨_, rfl⟩
    have hqG : q = G.length := by rw [hG, hq, List.length_append, HLF.out, HNM.out]
    have h8G : ∀ c ∈ G, c < 256 := by
      intro c hc
      rw [hG] at hc
      rcases List.mem_append.1 hc with h | h
      · exact H8F.out c h
      · exact HM.out.1 c h
    rw [← hG, ← hq] at howB
    rw [← hq]
    rw [← hG] at UF
    have hqb : q ≤ 5104 := by omega
    have hclG : Cl v3 G ac cc := own_cl (by rw [← hqG]; exact howB) h8G
    have HCG := Lib.hid hclG
    have hqc : q ≤ cc := by rw [hqG]; exact hclG.le
    have HQG := Lib.hid hqG
    have HFB := Lib.hid hfB
    have hccm := hclG.fits
    clear howB hclG hqG hq hG h8G hfB HOA HXS HFA
    go_wp2_with fail
    refine (unframe_all ac q cc G v3 HCG.out.bytes HQG.out hqc HCG.out.nil (by omega) hccm).mono ?_
    rintro e v4 ⟨e1, d1, e2, d2, rfl, hx4, hy4, hf4⟩
    obtain ⟨u1, u2, u3⟩ := UF.out
    rw [u2] at hx4
    rw [u3] at hy4
    rw [u1, u2, u3]
    clear u1 u2 u3
    have HF4 := Lib.hid (HFB.out.trans hf4 (U := []) (by simp) (by simp))
    have HB4 : Hid (Below w.heap.size w v4) := HB1.out.trans (HF4.out.below (by simp) HB1.out.size)
    have q1 := to_string (c := d1) hx4 HN.out
    have q2 := to_string (c := cap0) (HL.out.later HB4.out) HN.out
    have q3 := to_string (c := d2) hy4 HNM.out
    have q4 := to_string (c := cap1) (HM.out.later HB4.out) HNM.out
    rw [← HN.out, ← HNM.out]
    have hof4 := HF4.out.own HOF.out (by simp)
    have HOF4 := Lib.hid hof4
    have hcl4 : Cl v4 F af cf := HCL.out.keep HF4.out
    have HCL4 := Lib.hid hcl4
    have hLc : L ≤ cf := by rw [HLF.out]; exact hcl4.le
    have hcfm := hcl4.fits
    clear hx4 hy4 hf4 hof4 hcl4
    go_wp2_with fail
    refine (unframe_all af y cf (F.take y) v4 (HCL4.out.bytes.take y) (by rw [List.length_take, ← HLF.out]; omega) (by omega) HCL4.out.nil (by omega) hcfm).mono ?_
    rintro e v5 ⟨e3, d3, e4, d4, rfl, _, _, hf5⟩
    rw [UCUT.out y hyL]
    have HB5 : Hid (Below w.heap.size w v5) := HB4.out.trans (hf5.below (by simp) HB4.out.size)
    have hof5 := hf5.own HOF4.out (by simp)
    have hge0 : w.heap.size ≤ v0.heap.size := HB0.out.size
    clear q1 q2 q3 q4 hf5
    obtain ⟨gf, haf, hgf⟩ : ∃ gf, af = some ⟨gf, 0, none⟩ ∧ v0.heap.size ≤ gf := by
      rcases hof5.2 with ⟨h, h0⟩ | ⟨g, cap, cur, hv, hbg, _⟩
      · omega
      · injection hv with h1 _ _; exact ⟨g, h1, hbg⟩
    subst haf
    obtain ⟨j, hj⟩ : ∃ j, j = k / 8 := ⟨_, rfl⟩
    obtain ⟨i, hi⟩ : ∃ i, i = k % 8 := ⟨_, rfl⟩
    have hjL : j < L := by omega
    have hi8 : i < 8 := by omega
    have hj1 : (k : Int) / 8 = (j : Int) := by rw [hj]; rfl
    have hi1 : (k : Int) % 8 = (i : Int) := by rw [hi]; rfl
    have cj := hof5.cellAt j (by omega)
    rw [getD_map_u8v (by rw [← HLF.out]; exact hjL)] at cj
    have fj := hof5.frozenAt j
    obtain ⟨c, hc⟩ : ∃ c, c = F.getD j 0 := ⟨_, rfl⟩
    have hc8 : c < 256 := by rw [hc]; exact getD_lt H8F.out j
    rw [← hc] at cj
    unfold u8v at cj
    have HC := Lib.hid hc; clear hc
    have HO5 := Lib.hid hof5; clear hof5
    have HK : Hid (k = 8 * j + i) := by show k = _; omega
    have hjl : (j : Int) < (L : Int) := by omega
    clear hj hi hx2 hy1
    go_wp2
    go_region
    obtain ⟨v, hv⟩ : ∃ v, v = c ^^^ 2 ^ i := ⟨_, rfl⟩
    have hxr : bits BinOp.xor IntKind.u8 (c : Int) (2 ^ i % 256) = (v : Int) := by rw [hv]; exact turn_says c i hc8 hi8
    have hv8 : v < 256 := by rw [hv]; exact Nat.xor_lt_two_pow (n := 8) hc8 (Nat.pow_lt_pow_right (by decide) hi8)
    have hvne : v ≠ F.getD j 0 := by rw [hv, ← HC.out]; exact turn_ne c i
    rw [hxr]
    have hst := HO5.out.stored j (.int .u8 (v : Nat))
    have hset : (F.map u8v).set j (.int .u8 (v : Nat)) = (F.set j v).map u8v := by rw [List.map_set]; rfl
    rw [hset] at hst
    have hB6 : Hid (Below w.heap.size w (v5.setCell ⟨gf, j, none⟩ (.int .u8 (v : Nat))).drew) := (HB5.out.grown hst.2 HB5.out.size (fun q hq => by cases hq; omega)).drew
    have hbl : Bytes (v5.setCell ⟨gf, j, none⟩ (.int .u8 (v : Nat))).drew (some ⟨gf, 0, none⟩) (F.set j v) ∧ True := ⟨?_, trivial⟩
    rotate_left
    · have h8s : ∀ d ∈ F.set j v, d < 256 := fun d hd => by
        rcases List.mem_or_eq_of_mem_set hd with h | h
        · exact H8F.out d h
        · omega
      have hown := hst.1
      have e1 : L = (F.set j v).length := by rw [List.length_set]; exact HLF.out
      rw [e1] at hown
      exact (own_cl hown h8s).bytes
    obtain ⟨G, hG⟩ : ∃ G, G = F.set j v := ⟨_, rfl⟩
    have hGL : L = G.length := by rw [hG, List.length_set]; exact HLF.out
    have ut := UT.out j v hjL hvne hv8
    rw [← hG] at hbl ut
    obtain ⟨v6, hv6⟩ : ∃ v6, v6 = (v5.setCell ⟨gf, j, none⟩ (.int .u8 (v : Nat))).drew := ⟨_, rfl⟩
    rw [← hv6] at hbl hB6 ⊢
    have HBL := Lib.hid hbl.1
    have HUT := Lib.hid ut
    have HGL := Lib.hid hGL
    clear hbl ut hGL hG hv6 hst hset hxr hv hvne cj fj
    go_wp2_with fail
    refine (unframe_all (some ⟨gf, 0, none⟩) L cf G v6 HBL.out HGL.out hLc (by simp) (by omega) hcfm).mono ?_
    rintro e v7 ⟨e5, d5, e6, d6, rfl, _, _, hf7⟩
    have HB7 : Hid (Below w.heap.size w v7) := hB6.out.trans (hf7.below (by simp) hB6.out.size)
    obtain ⟨C, hC⟩ : ∃ C, C = uC G := ⟨_, rfl⟩
    obtain ⟨X, hX⟩ : ∃ X, X = (uX G).length := ⟨_, rfl⟩
    rw [← hC, ← hX]
    rw [← hC, ← hX] at HUT
    clear hf7 hC hX
    have hKV := HK.out
    by_cases hC0 : C = 0
    · obtain ⟨hj4, hXl⟩ := HUT.out hC0
      subst hC0
      have hk32 : k < 32 := by omega
      have hXn : ((X : Int) == (len0 : Int)) = false := by have := HN.out; simp; omega
      have hXn2 : ((X : Int) != (len0 : Int)) = true := by have := HN.out; simp; omega
      clear hKV hXl
      go_wp2
      go_ret
      exact ⟨rfl, HB7.out⟩
    · have hCn : (C == 0) = false := by simpa using hC0
      have hCn2 : (C != 0) = true := by simpa using hC0
      clear hKV
      by_cases hk32 : k < 32
      · go_wp2
        all_goals (go_ret; exact ⟨rfl, HB7.out⟩)
      · go_wp2
        all_goals (go_ret; exact ⟨rfl, HB7.out⟩)
  · go_enter Try.func7, Try.ntmps7
    go_wp2_with fail
    refine (awake2_any w).mono ?_
    rintro e v1 ⟨rfl, hb⟩
    have HB := Lib.hid hb; clear hb
    go_wp2
    all_goals first | (exfalso; omega) | (go_ret; exact ⟨rfl, HB.out⟩)
end Go.Proofs.Ytpamiglinmfgkaa
