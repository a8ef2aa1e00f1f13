/- The law's did. Written by wip/mk-wpdid.py. -/
import Derived.Test.YtecfoomjpjcldaaWpU
import Derived.Test.YtecfoomjpjcldaaInWa
import Derived.Test.YtecfoomjpjcldaaSpoil
namespace Go.Proofs.Ytecfoomjpjcldaa
open Go.RowKit
set_option maxRecDepth 100000
def PdEnd (w : World) (B px pm : Nat) (G : List Nat) (P W A : Nat) (D : List (List Nat)) (e : Ending) (w' : World) : Prop :=
  e = .returned (.bool true) ∧ ∃ G' D' H' su' cl', Pw w' B px pm G' P W A D' H' su' cl' ∧ Frm (px :: pm :: G) w w' ∧ (∀ g ∈ G', g ∈ G ∨ w.heap.size ≤ g) ∧ D'.length ≤ D.length + 1
/-- The document's call behind the program's: both again. -/
theorem Pw.next {w w' : World} {B px pm : Nat} {G G' : List Nat} {P W A : Nat} {D' : List (List Nat)} {H' : Nat → Nat → Bool} {su' : Nat} {cl' : Bool} (hq : Wq w B px (pm :: G) P W A D' H' su' cl') (hd : Dw w' B pm [px] G' P W A D' H' su' cl') (hf : Frm (pm :: G) w w') (hG : ∀ g ∈ G', g ∈ G ∨ w.heap.size ≤ g) : Pw w' B px pm G' P W A D' H' su' cl' :=
  ⟨hq.keep hf (fun x hx => .inl hx) (fun x hx => by
    rcases List.mem_cons.1 hx with rfl | hx
    · exact .inl (by simp)
    · exact (hG x hx).imp (List.mem_cons_of_mem _) id), hd⟩
theorem uv_at {w : World} {a : Option Addr} {M : List Nat} (h : ValsAt w a (uvW M)) {i : Nat} (hi : i < M.length) : ∃ b off, a = some ⟨b, off, none⟩ ∧ w.cell? ⟨b, off + i, none⟩ = some (.int .u64 (M.getD i 0 : Nat)) := by
  have e : (uvW M)[i]? = some (.int .u64 (M.getD i 0 : Nat)) := by simp [uvW, hi]
  rcases h with h | ⟨b, off, rfl, hc⟩
  · rw [h] at e; simp at e
  · exact ⟨b, off, rfl, hc i _ e⟩
set_option maxHeartbeats 16000000 in
theorem wpdid_any {w : World} {B px pm : Nat} {G : List Nat} {P W A : Nat} {D : List (List Nat)} {H : Nat → Nat → Bool} {su : Nat} {cl : Bool} (x : Wa) (hx : WaOk w x) (h400 : x.data.length ≤ 400) (hap : x.data ≠ [] → ∀ q, x.dataA = some q → q.block ∉ px :: pm :: G) (m : Pw w B px pm G P W A D H su cl) (hB : B ≤ w.heap.size) (hl : D.length ≤ 1000) :
    Calls Try.prog 14 #[.pointer (some ⟨px, 0, none⟩), .pointer (some ⟨pm, 0, none⟩), x.value] w (PdEnd w B px pm G P W A D) := by
  obtain ⟨Q, hQ⟩ : ∃ Q, Q = PdEnd w B px pm G P W A D := ⟨_, rfl⟩
  rw [← hQ]
  have GO : Hid (∀ z G' D' H' su' cl', Pw z B px pm G' P W A D' H' su' cl' → Frm (px :: pm :: G) w z → (∀ g ∈ G', g ∈ G ∨ w.heap.size ≤ g) → D'.length ≤ D.length + 1 → Q (.returned (.bool true)) z) := Lib.hid fun z G' D' H' su' cl' h1 h2 h3 h4 => by
    rw [hQ]; exact ⟨rfl, G', D', H', su', cl', h1, h2, h3, h4⟩
  have HX := Lib.hid hx
  have HAP := Lib.hid hap
  have HM := Lib.hid m
  have HLL := Lib.hid hl
  have hsl := m.dw.su_le
  have hbp := m.dw.lt
  have hbx := m.pr.lt
  have HLT : Hid (∀ y ∈ px :: pm :: G, y < w.heap.size) := Lib.hid fun y hy => by
    rcases List.mem_cons.1 hy with rfl | hy
    · exact hbx
    · rcases List.mem_cons.1 hy with rfl | hy
      · exact hbp
      · exact (m.dw.g_lt y hy).2.1
  obtain ⟨a, c, b, e, R, vs, hv, _⟩ := m.dw.box
  have v0 : w.cell? ⟨pm, 0, none⟩ = some (.int .i64 (P : Nat)) := hv.cell 0
  have v5 : w.cell? ⟨pm, 5, none⟩ = some (.int .i64 (su : Nat)) := hv.cell 5
  obtain ⟨q1, q2, q3, q4⟩ := m.pr.quo
  obtain ⟨k, da, dc, d, pl0, en0, raw⟩ := x
  unfold Wa.value
  simp only at h400 HX
  have hk256 : k < 256 := HX.out.k_lt
  have hen64 : en0 < 18446744073709551616 := HX.out.entry_lt
  simp only
  obtain ⟨dn, hdn⟩ : ∃ dn, dn = d.length := ⟨_, rfl⟩
  rw [← hdn] at h400 ⊢
  have HDN := Lib.hid hdn
  obtain ⟨g, hg⟩ : ∃ g, g = w.heap.size := ⟨_, rfl⟩
  have hu : IntKind.u64.wrap pl0 = (((IntKind.u64.wrap pl0).toNat : Nat) : Int) := by simp [IntKind.wrap, IntKind.bits, IntKind.signed]; omega
  obtain ⟨up, hup⟩ : ∃ up, up = (IntKind.u64.wrap pl0).toNat := ⟨_, rfl⟩
  rw [← hup] at hu
  have huP : IntKind.u64.wrap (P : Int) = (P : Int) := by simp [IntKind.wrap, IntKind.bits, IntKind.signed]; omega
  have hus : IntKind.u64.wrap (su : Int) = (su : Int) := by rw [IntWalk.u64_in _ (by omega)]
  have b1 := modI up P
  have b2 : ((up % P : Nat) : Int) < 7 := by have := Nat.mod_lt up (show 0 < P by omega); omega
  have b3 : IntKind.i64.wrap ((up % P : Nat) : Int) = ((up % P : Nat) : Int) := IntWalk.i64_in _ (by omega)
  have b4 := modI en0 4
  have hP0 : (P : Int) ≠ 0 := by omega
  obtain ⟨wA, hwA⟩ : ∃ wA, wA = w.alloc (.cells #[.int .u8 (k : Nat), .slice da dn dc, .int .i64 pl0, .int .u64 (en0 : Nat), .bool raw] 41) := ⟨_, rfl⟩
  have hfA : Frm [] w wA := by rw [hwA]; exact (Frm.refl _ _).alloc _
  have hWA : Whole wA g 41 #[.int .u8 (k : Nat), .slice da dn dc, .int .i64 pl0, .int .u64 (en0 : Nat), .bool raw] := by rw [hwA, hg]; exact Whole.made _ _ _
  have HWA := Lib.hid hWA
  have HFA := Lib.hid hfA
  have HG := Lib.hid hg
  have HEA := Lib.hid hwA
  have va0 := (hfA.cell hbp (by simp)).trans v0
  have va5 := (hfA.cell hbp (by simp)).trans v5
  have e4 := hWA.cell 4
  have e3 := hWA.cell 3
  have e2 := hWA.cell 2
  have z2 := hWA.free 2
  have z3 := hWA.free 3
  simp at e4 e3 e2
  have hgp : ¬ g = pm := by omega
  clear hQ hx hap m hv hl hup hdn hg hwA hfA hWA v0 v5 hsl
  go_enter Try.func14, Try.ntmps14
  go_upto_if 22 with fail
  rw [← HEA.out, ← HG.out]
  go_cut [6] from 23 to 45 (fun v6 wx => v6 = .bool false ∧ ∃ (pl : Int) (en : Nat), Hid (en < 18446744073709551616) ∧ Hid (Whole wx g 41 #[.int .u8 (k : Nat), .slice da dn dc, .int .i64 pl, .int .u64 (en : Nat), .bool raw]) ∧ Hid (Frm [] w wx))
  case first =>
    cases raw with
    | true =>
      go_wp2_with fail
      go_meet
      case rel => exact ⟨rfl, pl0, en0, Lib.hid hen64, HWA, HFA⟩
    | false =>
      go_wp2_with fail
      go_region
      go_wp2_with fail
      go_meet
      case rel =>
        obtain ⟨wB, hwB⟩ : ∃ wB, wB = ((wA.setCell ⟨g, 2, none⟩ (.int .i64 ((up : Int) % (P : Int)))).setCell ⟨g, 3, none⟩ (.int .u64 (IntKind.u64.wrap ((su : Int) + (en0 : Int) % 4)))).drew := ⟨_, rfl⟩
        have h1 := (((HWA.out.put 2 (.int .i64 ((up : Int) % (P : Int)))).put 3 (.int .u64 (IntKind.u64.wrap ((su : Int) + (en0 : Int) % 4))))).drew
        have hw4 : IntKind.u64.wrap ((su : Int) + (en0 : Int) % 4) = ((su + en0 % 4 : Nat) : Int) := by
          have h2 : ((en0 : Int) % 4) = ((en0 % 4 : Nat) : Int) := by omega
          rw [h2, IntWalk.u64_in _ (by have := HLL.out; have := HM.out.dw.su_le; omega)]; rfl
        have hf : Frm [g] wA wB := by rw [hwB]; exact (((Frm.refl _ _).setCell (.inl (by simp)) _).setCell (.inl (by simp)) _).drew
        refine ⟨rfl, (up : Int) % (P : Int), su + en0 % 4, Lib.hid (by have := HLL.out; have := HM.out.dw.su_le; omega), Lib.hid (by rw [hw4] at h1 ⊢; simpa using h1), Lib.hid ?_⟩
        rw [← hwB]
        exact HFA.out.trans hf (by simp) (fun x hx => .inr (by rw [← HG.out]; simp at hx; omega))
  case rest =>
    obtain ⟨rfl, pl, en, HEN, HWC, HFC⟩ := hcut
    obtain ⟨wq, hwq⟩ : ∃ wq, wq = wc := ⟨_, rfl⟩
    rw [← hwq] at HWC HFC ⊢
    clear hwq wc b1 b2 b3 b4 hu huP hus hP0 va0 va5 e4 e3 e2 z2 z3 HEA HWA HFA hen64
    have HM3 := Lib.hid (HM.out.here HFC.out)
    have hen := HEN.out
    have HL5 : Hid (D.length ≤ 100000) := Lib.hid (by have := HLL.out; omega)
    have HGN : Hid (g ∉ px :: pm :: G) := Lib.hid fun hm => by have := HLT.out g hm; have := HG.out; omega
    have HSZ : Hid (w.heap.size < wq.heap.size ∧ g < wq.heap.size) := Lib.hid (by have h1 := HWC.out.lt; have h2 := HG.out; omega)
    have K2 : ∀ y, Frm (px :: pm :: G) wq y → y.cell? ⟨g, 2, none⟩ = some (.int .i64 pl) := fun y hy => (hy.whole HWC.out HGN.out).cell 2
    have K3 : ∀ y, Frm (px :: pm :: G) wq y → y.cell? ⟨g, 3, none⟩ = some (.int .u64 (en : Nat)) := fun y hy => (hy.whole HWC.out HGN.out).cell 3
    have e0 : wq.cell? ⟨g, 0, none⟩ = some (.int .u8 (k : Nat)) := HWC.out.cell 0
    obtain ⟨r, hr⟩ : ∃ r, r = k % 7 := ⟨_, rfl⟩
    have m1 : (k : Int) % 7 = (r : Int) := by rw [hr]; rfl
    have hr7 : r < 7 := by rw [hr]; exact Nat.mod_lt _ (by decide)
    have HPW : Hid (∀ z G' D' H' su' cl', Wq z B px (pm :: G') P W A D' H' su' cl' → Dw z B pm [px] G' P W A D' H' su' cl' → Frm (px :: pm :: G) wq z → (∀ g ∈ G', g ∈ G ∨ wq.heap.size ≤ g) → D'.length ≤ D.length + 1 → Q (.returned (.bool true)) z) := Lib.hid fun z G' D' H' su' cl' h1 h2 h3 h4 h5 => GO.out z G' D' H' su' cl' ⟨h1, h2⟩ (HFC.out.trans h3 (by simp) (fun x hx => .inl hx)) (fun g hg => (h4 g hg).imp id (fun h => by have := HFC.out.size; omega)) h5
    clear hr GO
    by_cases c0 : r = 0
    · have n0 : ((k : Int) % 7 == 0) = true := by rw [m1, c0]; rfl
      obtain ⟨i1, uinf, uz0, uz1, uz2⟩ := info_parts Try.info5
      have UI := Lib.hid uinf
      obtain ⟨w1, hw1⟩ : ∃ w1, w1 = wq.alloc (.cells #[] 5) := ⟨_, rfl⟩
      have f1 : Frm [] wq w1 := by rw [hw1]; exact (Frm.refl _ _).alloc _
      have e1 : (wq.alloc (.cells #[] 5)).cell? ⟨g, 1, none⟩ = some (.slice da dn dc) := by rw [← hw1]; exact (f1.cell HSZ.out.2 (by simp)).trans (HWC.out.cell 1)
      have LIT : Hid (w1.ownsRow wq.heap.size 5 1 (.slice (some ⟨wq.heap.size, 0, none⟩) 0 0) 0 []) := Lib.hid (by rw [hw1]; exact World.ownsRow_lit wq #[] 0 (Nat.le_refl _) (by unfold maxLen; omega) rfl)
      have BY : Hid (Bytes w1 da d) := Lib.hid ((HFC.out.trans f1 (U := []) (by simp) (by simp)).bytes' HX.out.data_b (by simp))
      have SZ : Hid (wq.heap.size ≤ w1.heap.size) := Lib.hid f1.size
      have HNIL : Hid (da = none → dc = 0) := Lib.hid HX.out.data_nil
      have H8 : Hid (∀ c ∈ d, c < 256) := Lib.hid HX.out.data_b.1
      obtain ⟨E, hE⟩ : ∃ E, E = wrAddE D su cl dn := ⟨_, rfl⟩
      obtain ⟨N, hN⟩ : ∃ N, N = adN D E := ⟨_, rfl⟩
      have HE0 := Lib.hid hE
      have HN0 := Lib.hid hN
      have d1 : ((N : Int) == (N : Int)) = true := by simp
      have d2 : ((E : Int) == (E : Int)) = true := by simp
      have FN : Hid (∀ av cv w2, App w1 w2 wq.heap.size 5 (.slice (some ⟨wq.heap.size, 0, none⟩) 0 0) 0 dn [] d av cv → Frm [] wq w2 ∧ w2.ownsRow wq.heap.size 5 1 (.slice av dn cv) dn (d.map u8v)) := Lib.hid fun av cv w2 happ => by
        refine ⟨f1.grown happ.grown (fun y hy => .inr (by simp [Value.ownBlock] at hy; omega)), ?_⟩
        have := happ.own
        rwa [Nat.zero_add, List.nil_append] at this
      have HW1 := Lib.hid hw1
      clear hE hN hw1 f1 uinf m1 c0 hr7 K2 K3
      go_wp2_with (at_builtin; rw [← HW1.out]; refine wpList_app rfl (.tmp 51) (.tmp 53) 38 rfl wq.heap.size 5 i1 Try.underlying38 UI.out uz0 uz1 uz2 (.slice (some ⟨wq.heap.size, 0, none⟩) 0 0) 0 [] rfl LIT.out da dn dc d rfl BY.out HDN.out HNIL.out (by omega) SZ.out ?_)
      intro av cv w2 happ
      obtain ⟨hf2, hown⟩ := FN.out av cv w2 happ
      try simp only [Nat.zero_add]
      have hnew : ∀ y ∈ blk av, wq.heap.size ≤ y ∧ y < w2.heap.size := fun y hy => World.ownsRow.lt hown y (ownBlk.2 hy)
      have hob := bytes_of_own hown H8.out
      have hq2 : Wq w2 B px (blk av ++ (pm :: G)) P W A D H su cl := HM3.out.pr.keep hf2 (by simp) (fun y hy => by
        rcases List.mem_append.1 hy with h | h
        · exact .inr (hnew y h).1
        · exact .inl h)
      have hd2 : Dw w2 B pm (blk av ++ [px]) G P W A D H su cl := HM3.out.dw.keep hf2 (by simp) (fun y hy => by
        rcases List.mem_append.1 hy with h | h
        · exact .inr (hnew y h).1
        · exact .inl h)
      have hs2 := hf2.size
      have HAD := Lib.hid (wradd_u av dn cv d hq2 (fun y hy => by
        rcases List.mem_append.1 hy with h | h
        · exact (hnew y h).2
        · have := HLT.out y (List.mem_cons_of_mem _ h); have := HSZ.out; omega) hob.2.1 HDN.out hob.2.2)
      rw [← HE0.out, ← HN0.out] at HAD
      have HD2 := Lib.hid hd2
      have HOW := Lib.hid hown
      have HNW := Lib.hid hnew
      have HF2 := Lib.hid hf2
      clear happ hf2 hown hnew hob hq2 hd2 hs2 FN LIT BY e1 e0
      go_wp2_with fail
      (with_reducible refine HAD.out.mono ?_)
      rintro ex w3 ⟨rfl, hf3, hq3⟩
      have hpx : px ∉ blk av := fun hm => by have h1 := (HNW.out px hm).1; have h2 := HLT.out px (by simp); have h3 := HSZ.out; omega
      have HO3 := Lib.hid (hf3.own HOW.out (fun y hy hm => hpx (by simp at hm; subst hm; exact ownBlk.1 hy)))
      have HQ3 := Lib.hid hq3
      have HD3 := Lib.hid (HD2.out.keep hf3 (F' := blk av ++ [px]) (fun y hy => .inl (by simp at hy; simp [hy])) (fun y hy => .inl hy))
      have HF3 : Hid (Frm [px] wq w3) := Lib.hid (HF2.out.trans hf3 (by simp) (fun y hy => .inl hy))
      clear hf3 hq3 HAD HD2 HOW HF2 hpx
      go_wp2_with fail
      go_loopw [63] (fun i wr => SpRel w3 wq.heap.size 5 av dn cv i wr) (fun i _ => dn - (intOf i).toNat)
      case atStart => exact Spoilt.start HO3.out H8.out
      case round =>
        obtain ⟨j, cc, hj, rfl, hsp⟩ := hrel
        by_cases hlt : j < dn
        · obtain ⟨b, dd, hab, hd8, s0, s1, s2, hnext⟩ := hsp.at hlt
          have hbits := all_bits dd hd8
          subst hab
          have HNX := Lib.hid hnext
          clear hsp hnext
          go_wp2
          go_roundw
          case rel => exact ⟨j + 1, _, hlt, by go_num, HNX.out⟩
          case measure => simp [intOf]; omega
        · have hqr := HQ3.out.keep hsp.frm (F' := pm :: G) (fun y hy => .inl (by simp [hy])) (fun y hy => .inl (by simp only [List.mem_append]; exact .inr hy))
          have hdr := HD3.out.keep hsp.frm (F' := [px]) (fun y hy => .inl (by simp [hy])) (fun y hy => .inl (by simp only [List.mem_append]; exact .inr hy))
          have hfr : Frm [px] wq wr := HF3.out.trans hsp.frm (fun y hy => hy) (fun y hy => .inr (HNW.out y hy).1)
          have hgp : g ∉ [px] := fun hm => HGN.out (by simp at hm; simp [hm])
          have e1 : wr.cell? ⟨g, 1, none⟩ = some (.slice da dn dc) := (hfr.cell HSZ.out.2 hgp).trans (HWC.out.cell 1)
          have hby : Bytes wr da d := hfr.bytes' (HFC.out.bytes' HX.out.data_b (by simp)) (fun hne q hq hm => HAP.out hne q hq (by simp at hm; simp [hm]))
          have hwr := hfr.size
          have HDA := dwadd_u da dn dc d hdr (by have := HSZ.out; omega) HL5.out HM.out.pr.wait.2.1 (fun y hy => by simp at hy; have h2 := HLT.out px (by simp); have h3 := HSZ.out; omega) hby HDN.out HNIL.out
          rw [← HE0.out, ← HN0.out] at HDA
          have HDA := Lib.hid HDA
          have HQR := Lib.hid hqr
          have HFR := Lib.hid hfr
          clear hsp hqr hdr hfr hgp hby hwr
          go_wp2_with fail
          (with_reducible refine HDA.out.mono ?_)
          rintro ex w5 ⟨rfl, G', hf5, hG5, hd5⟩
          have hs := HFR.out.size
          have hpw := Pw.next HQR.out hd5 hf5 hG5
          have HE := Lib.hid (HPW.out w5 G' _ _ _ _ hpw.pr hpw.dw (HFR.out.trans hf5 (fun y hy => by simp at hy; simp [hy]) (fun y hy => .inl (List.mem_cons_of_mem _ hy))) (fun y hy => (hG5 y hy).imp id (fun h => by omega)) (adD_len _ _ _))
          clear hf5 hG5 hd5 HDA hs hpw e1
          go_wp2
          exact HE.out
    by_cases c1 : r = 1
    · have n0 : ((k : Int) % 7 == 0) = false := by rw [m1, beq_eq_false_iff_ne]; omega
      have n1 : ((k : Int) % 7 == 1) = true := by rw [m1, c1]; rfl
      obtain ⟨i1, uinf, uz0, uz1, uz2⟩ := info_parts Try.info5
      have UI := Lib.hid uinf
      obtain ⟨w1, hw1⟩ : ∃ w1, w1 = wq.alloc (.cells #[] 5) := ⟨_, rfl⟩
      have f1 : Frm [] wq w1 := by rw [hw1]; exact (Frm.refl _ _).alloc _
      have e1 : (wq.alloc (.cells #[] 5)).cell? ⟨g, 1, none⟩ = some (.slice da dn dc) := by rw [← hw1]; exact (f1.cell HSZ.out.2 (by simp)).trans (HWC.out.cell 1)
      have LIT : Hid (w1.ownsRow wq.heap.size 5 1 (.slice (some ⟨wq.heap.size, 0, none⟩) 0 0) 0 []) := Lib.hid (by rw [hw1]; exact World.ownsRow_lit wq #[] 0 (Nat.le_refl _) (by unfold maxLen; omega) rfl)
      have BY : Hid (Bytes w1 da d) := Lib.hid ((HFC.out.trans f1 (U := []) (by simp) (by simp)).bytes' HX.out.data_b (by simp))
      have SZ : Hid (wq.heap.size ≤ w1.heap.size) := Lib.hid f1.size
      have HNIL : Hid (da = none → dc = 0) := Lib.hid HX.out.data_nil
      have H8 : Hid (∀ c ∈ d, c < 256) := Lib.hid HX.out.data_b.1
      obtain ⟨E, hE⟩ : ∃ E, E = wrAddE D su cl dn := ⟨_, rfl⟩
      obtain ⟨N, hN⟩ : ∃ N, N = adN D E := ⟨_, rfl⟩
      have HE0 := Lib.hid hE
      have HN0 := Lib.hid hN
      have d1 : ((N : Int) == (N : Int)) = true := by simp
      have d2 : ((E : Int) == (E : Int)) = true := by simp
      have FN : Hid (∀ av cv w2, App w1 w2 wq.heap.size 5 (.slice (some ⟨wq.heap.size, 0, none⟩) 0 0) 0 dn [] d av cv → Frm [] wq w2 ∧ w2.ownsRow wq.heap.size 5 1 (.slice av dn cv) dn (d.map u8v)) := Lib.hid fun av cv w2 happ => by
        refine ⟨f1.grown happ.grown (fun y hy => .inr (by simp [Value.ownBlock] at hy; omega)), ?_⟩
        have := happ.own
        rwa [Nat.zero_add, List.nil_append] at this
      have HW1 := Lib.hid hw1
      clear hE hN hw1 f1 uinf m1 c0 c1 hr7 K2 K3
      go_wp2_with (at_builtin; rw [← HW1.out]; refine wpList_app rfl (.tmp 51) (.tmp 53) 38 rfl wq.heap.size 5 i1 Try.underlying38 UI.out uz0 uz1 uz2 (.slice (some ⟨wq.heap.size, 0, none⟩) 0 0) 0 [] rfl LIT.out da dn dc d rfl BY.out HDN.out HNIL.out (by omega) SZ.out ?_)
      intro av cv w2 happ
      obtain ⟨hf2, hown⟩ := FN.out av cv w2 happ
      try simp only [Nat.zero_add]
      have hnew : ∀ y ∈ blk av, wq.heap.size ≤ y ∧ y < w2.heap.size := fun y hy => World.ownsRow.lt hown y (ownBlk.2 hy)
      have hob := bytes_of_own hown H8.out
      have hq2 : Wq w2 B px (blk av ++ (pm :: G)) P W A D H su cl := HM3.out.pr.keep hf2 (by simp) (fun y hy => by
        rcases List.mem_append.1 hy with h | h
        · exact .inr (hnew y h).1
        · exact .inl h)
      have hd2 : Dw w2 B pm (blk av ++ [px]) G P W A D H su cl := HM3.out.dw.keep hf2 (by simp) (fun y hy => by
        rcases List.mem_append.1 hy with h | h
        · exact .inr (hnew y h).1
        · exact .inl h)
      have hs2 := hf2.size
      have HAD := Lib.hid (wradd_u av dn cv d hq2 (fun y hy => by
        rcases List.mem_append.1 hy with h | h
        · exact (hnew y h).2
        · have := HLT.out y (List.mem_cons_of_mem _ h); have := HSZ.out; omega) hob.2.1 HDN.out hob.2.2)
      rw [← HE0.out, ← HN0.out] at HAD
      have HD2 := Lib.hid hd2
      have HOW := Lib.hid hown
      have HNW := Lib.hid hnew
      have HF2 := Lib.hid hf2
      clear happ hf2 hown hnew hob hq2 hd2 hs2 FN LIT BY e1 e0
      go_wp2_with fail
      (with_reducible refine HAD.out.mono ?_)
      rintro ex w3 ⟨rfl, hf3, hq3⟩
      have hpx : px ∉ blk av := fun hm => by have h1 := (HNW.out px hm).1; have h2 := HLT.out px (by simp); have h3 := HSZ.out; omega
      have HO3 := Lib.hid (hf3.own HOW.out (fun y hy hm => hpx (by simp at hm; subst hm; exact ownBlk.1 hy)))
      have HQ3 := Lib.hid hq3
      have HD3 := Lib.hid (HD2.out.keep hf3 (F' := blk av ++ [px]) (fun y hy => .inl (by simp at hy; simp [hy])) (fun y hy => .inl hy))
      have HF3 : Hid (Frm [px] wq w3) := Lib.hid (HF2.out.trans hf3 (by simp) (fun y hy => .inl hy))
      clear hf3 hq3 HAD HD2 HOW HF2 hpx
      go_wp2_with fail
      go_loopw [63] (fun i wr => SpRel w3 wq.heap.size 5 av dn cv i wr) (fun i _ => dn - (intOf i).toNat)
      case atStart => exact Spoilt.start HO3.out H8.out
      case round =>
        obtain ⟨j, cc, hj, rfl, hsp⟩ := hrel
        by_cases hlt : j < dn
        · obtain ⟨b, dd, hab, hd8, s0, s1, s2, hnext⟩ := hsp.at hlt
          have hbits := all_bits dd hd8
          subst hab
          have HNX := Lib.hid hnext
          clear hsp hnext
          go_wp2
          go_roundw
          case rel => exact ⟨j + 1, _, hlt, by go_num, HNX.out⟩
          case measure => simp [intOf]; omega
        · have hqr := HQ3.out.keep hsp.frm (F' := pm :: G) (fun y hy => .inl (by simp [hy])) (fun y hy => .inl (by simp only [List.mem_append]; exact .inr hy))
          have hdr := HD3.out.keep hsp.frm (F' := [px]) (fun y hy => .inl (by simp [hy])) (fun y hy => .inl (by simp only [List.mem_append]; exact .inr hy))
          have hfr : Frm [px] wq wr := HF3.out.trans hsp.frm (fun y hy => hy) (fun y hy => .inr (HNW.out y hy).1)
          have hgp : g ∉ [px] := fun hm => HGN.out (by simp at hm; simp [hm])
          have e1 : wr.cell? ⟨g, 1, none⟩ = some (.slice da dn dc) := (hfr.cell HSZ.out.2 hgp).trans (HWC.out.cell 1)
          have hby : Bytes wr da d := hfr.bytes' (HFC.out.bytes' HX.out.data_b (by simp)) (fun hne q hq hm => HAP.out hne q hq (by simp at hm; simp [hm]))
          have hwr := hfr.size
          have HDA := dwadd_u da dn dc d hdr (by have := HSZ.out; omega) HL5.out HM.out.pr.wait.2.1 (fun y hy => by simp at hy; have h2 := HLT.out px (by simp); have h3 := HSZ.out; omega) hby HDN.out HNIL.out
          rw [← HE0.out, ← HN0.out] at HDA
          have HDA := Lib.hid HDA
          have HQR := Lib.hid hqr
          have HFR := Lib.hid hfr
          clear hsp hqr hdr hfr hgp hby hwr
          go_wp2_with fail
          (with_reducible refine HDA.out.mono ?_)
          rintro ex w5 ⟨rfl, G', hf5, hG5, hd5⟩
          have hs := HFR.out.size
          have hpw := Pw.next HQR.out hd5 hf5 hG5
          have HE := Lib.hid (HPW.out w5 G' _ _ _ _ hpw.pr hpw.dw (HFR.out.trans hf5 (fun y hy => by simp at hy; simp [hy]) (fun y hy => .inl (List.mem_cons_of_mem _ hy))) (fun y hy => (hG5 y hy).imp id (fun h => by omega)) (adD_len _ _ _))
          clear hf5 hG5 hd5 HDA hs hpw e1
          go_wp2
          exact HE.out
    have c01 : ¬ (r = 0 ∨ r = 1) := by omega
    clear c0 c1
    have n0 : ((k : Int) % 7 == 0) = false := by rw [m1, beq_eq_false_iff_ne]; omega
    have n1 : ((k : Int) % 7 == 1) = false := by rw [m1, beq_eq_false_iff_ne]; omega
    by_cases c5 : r = 5
    · have n5 : ((k : Int) % 7 == 5) = true := by rw [m1, c5]; rfl
      have HC1 : Hid (∀ z, Frm [] wq z → Calls Try.prog 36 #[.pointer (some ⟨px, 0, none⟩), .int .i64 pl] z fun e w' => ∃ a c, e = .returned (.slice a (mustN P W su D.length pl).length c) ∧ ValsAt w' a (uvW (mustN P W su D.length pl)) ∧ (∀ x, a = some x → z.heap.size ≤ x.block) ∧ Wq w' B px (pm :: G) P W A D (hasDrop P W H su D.length pl) su cl ∧ Frm [px] z w') := Lib.hid fun z hz => wrreplace_new pl (HM3.out.pr.here hz)
      clear m1 c01 c5 hr7
      go_upto_region 16 with fail
      refine wp_region_held_drew (S := fun w' => Frm (px :: pm :: G) wq w') (by kernel_rfl) (Frm.drew (Frm.refl _ _)) (fun hHeld => ?_)
      refine wpAnyH_take (i := 0) (oi := ⟨some 90, _, _, _, _, _⟩) (v := ?_) rfl (by kernel_rfl) (by kernel_rfl) (by kernel_rfl) (fun _ _ _ h => h) (Or.inl ⟨by rfl, ?_⟩) (by assumption) ?_
      rotate_left 1
      · (intro w hSw; (try dsimp only at hSw); have k2 := K2 w hSw; go_simp; all_goals with_reducible rfl)
      try simp only [Act.put, List.setIfInBounds_toArray, List.set_cons_zero, List.set_cons_succ]
      refine wpAnyH_take (i := 1) (oi := ⟨some 91, _, _, _, _, _⟩) (v := ?_) rfl (by kernel_rfl) (by kernel_rfl) (by kernel_rfl) (fun _ _ _ h => h) (Or.inl ⟨by rfl, ?_⟩) (by assumption) ?_
      rotate_left 1
      · (intro w hSw; (try dsimp only at hSw); have k2 := K2 w hSw; go_simp; all_goals with_reducible rfl)
      try simp only [Act.put, List.setIfInBounds_toArray, List.set_cons_zero, List.set_cons_succ]
      refine wpAnyH_take (i := 2) (oi := ⟨some 92, _, _, _, _, _⟩) (v := ?_) rfl (by kernel_rfl) (by kernel_rfl) (by kernel_rfl) (fun _ _ _ h => h) (Or.inl ⟨by rfl, ?_⟩) (by assumption) ?_
      rotate_left 1
      · (intro w hSw; (try dsimp only at hSw); have k2 := K2 w hSw; go_simp; all_goals with_reducible rfl)
      try simp only [Act.put, List.setIfInBounds_toArray, List.set_cons_zero, List.set_cons_succ]
      refine wpAnyH_take (i := 4) (oi := ⟨some 94, _, _, _, _, _⟩) (v := ?_) rfl (by kernel_rfl) (by kernel_rfl) (by kernel_rfl) (fun _ _ _ h => h) (Or.inl ⟨by rfl, ?_⟩) (by assumption) ?_
      rotate_left 1
      · (intro w hSw; (try dsimp only at hSw); have k2 := K2 w hSw; go_simp; all_goals with_reducible rfl)
      try simp only [Act.put, List.setIfInBounds_toArray, List.set_cons_zero, List.set_cons_succ]
      refine wpAnyH_take (i := 5) (oi := ⟨some 95, _, _, _, _, _⟩) (v := ?_) rfl (by kernel_rfl) (by kernel_rfl) (by kernel_rfl) (fun _ _ _ h => h) (Or.inl ⟨by rfl, ?_⟩) (by assumption) ?_
      rotate_left 1
      · (intro w hSw; (try dsimp only at hSw); have k2 := K2 w hSw; go_simp; all_goals with_reducible rfl)
      try simp only [Act.put, List.setIfInBounds_toArray, List.set_cons_zero, List.set_cons_succ]
      refine wpAnyH_take (i := 6) (oi := ⟨some 96, _, _, _, _, _⟩) (v := ?_) rfl (by kernel_rfl) (by kernel_rfl) (by kernel_rfl) (fun _ _ _ h => h) (Or.inl ⟨by rfl, ?_⟩) (by assumption) ?_
      rotate_left 1
      · (intro w hSw; (try dsimp only at hSw); have k2 := K2 w hSw; go_simp; all_goals with_reducible rfl)
      try simp only [Act.put, List.setIfInBounds_toArray, List.set_cons_zero, List.set_cons_succ]
      refine wpAnyH_ready (rs := [3]) (by kernel_rfl) (by simp) ?_
      refine AllReadyH.cons (o := ⟨some 93, _, _, _, _, _⟩) rfl (fun K hK => ?_) AllReadyH.nil
      go_simp
      ((with_reducible refine (HC1.out _ (Frm.refl _ _).drew).mono ?_); rintro ex w5 ⟨a1, c1, rfl, hv1, hn1, hq5, hf5⟩; have hd5 := HM3.out.dw.keep ((Frm.refl [] wq).drew.trans hf5 (U := [px]) (by simp) (fun x hx => .inl hx)) (F' := [px]) (fun x hx => .inl hx) (fun x hx => .inl hx); have hs5 : Frm (px :: pm :: G) wq w5 := ((Frm.refl [] wq).drew.trans hf5 (U := px :: pm :: G) (by simp) (fun x hx => .inl (by simp at hx; simp [hx]))))
      go_wp2_with fail
      refine hK.out _ _ (by assumption) (fun hHeld => ?_)
      clear hK K
      try simp only [Act.put, List.setIfInBounds_toArray, List.set_cons_zero, List.set_cons_succ]
      refine wpAnyH_ready (rs := [7]) (by kernel_rfl) (by simp) ?_
      refine AllReadyH.cons (o := ⟨some 97, _, _, _, _, _⟩) rfl (fun K hK => ?_) AllReadyH.nil
      go_simp
      ((with_reducible refine (dwreplace_any pl hd5 HL5.out).mono ?_); rintro ex w6 ⟨a2, c2, rfl, hv2, hd6, hf6⟩; have hs6 : Frm (px :: pm :: G) wq w6 := hs5.trans hf6 (fun x hx => hx) (fun x hx => .inl (List.mem_cons_of_mem _ hx)))
      go_wp2_with fail
      refine hK.out _ _ (by assumption) (fun hHeld => ?_)
      clear hK K
      try simp only [Act.put, List.setIfInBounds_toArray, List.set_cons_zero, List.set_cons_succ]
      refine wpAnyH_take (i := 8) (oi := ⟨some 13, _, _, _, _, _⟩) (v := ?_) rfl (by kernel_rfl) (by kernel_rfl) (by kernel_rfl) (fun _ _ _ h => h) (Or.inl ⟨by rfl, ?_⟩) (by assumption) ?_
      rotate_left 1
      · (intro w hSw; (try dsimp only at hSw); have k2 := K2 w hSw; go_simp; all_goals with_reducible rfl)
      try simp only [Act.put, List.setIfInBounds_toArray, List.set_cons_zero, List.set_cons_succ]
      refine wpAnyH_take (i := 9) (oi := ⟨some 14, _, _, _, _, _⟩) (v := ?_) rfl (by kernel_rfl) (by kernel_rfl) (by kernel_rfl) (fun _ _ _ h => h) (Or.inl ⟨by rfl, ?_⟩) (by assumption) ?_
      rotate_left 1
      · (intro w hSw; (try dsimp only at hSw); have k2 := K2 w hSw; go_simp; all_goals with_reducible rfl)
      try simp only [Act.put, List.setIfInBounds_toArray, List.set_cons_zero, List.set_cons_succ]
      refine wpAnyH_done (by kernel_rfl) ?_ _
      have hpw := Pw.next hq5 hd6 hf6 (fun g hg => .inl hg)
      have HE : Hid (∀ z, Frm [] w6 z → Q (.returned (.bool true)) z) := Lib.hid fun z hz => HPW.out z G D _ _ cl (hpw.pr.here hz) (hd6.here hz) (hs6.trans hz (fun x hx => hx) (by simp)) (fun g hg => .inl hg) (Nat.le_succ _)
      have hv1' : ValsAt w6 a1 (uvW (mustN P W su D.length pl)) := hv1.keep hf6 (fun _ x hx hm => by
        have h1 := hn1 x hx
        have h2 := HLT.out x.block (List.mem_cons_of_mem _ hm)
        have h3 := HSZ.out
        have h4 : wq.heap.size ≤ x.block := h1
        omega)
      have hml : (mustN P W su D.length pl).length ≤ 100000 := by
        have h1 : (mustN P W su D.length pl).length ≤ (((List.range (D.length - su)).map (su + ·))).length := List.length_filter_le _ _
        have h2 := HL5.out
        rw [List.length_map, List.length_range] at h1
        omega
      obtain ⟨M, hM⟩ : ∃ M, M = mustN P W su D.length pl := ⟨_, rfl⟩
      rw [← hM] at hv1' hv2 hml ⊢
      obtain ⟨mn, hmn⟩ : ∃ mn, mn = M.length := ⟨_, rfl⟩
      rw [← hmn] at hml ⊢
      have HV1 := Lib.hid hv1'
      have HV2 := Lib.hid hv2
      have HMN := Lib.hid hmn
      have HR0 : Hid (Sh1Rel w6 mn (.int .i64 0) w6) := Lib.hid ⟨0, rfl, Nat.zero_le _, Lib.hid (Frm.refl _ _)⟩
      have d1 : ((mn : Int) == (mn : Int)) = true := by simp
      clear hpw hv1 hv1' hv2 hn1 hq5 hd5 hd6 hf5 hf6 hs5 hs6 hM hmn K2 K3 e0 HC1
      go_wp2
      go_loopw [105] (fun s105 wr => Sh1Rel w6 mn s105 wr) (fun s105 _ => mn - (intOf s105).toNat)
      case atStart => exact HR0.out
      case round =>
        clear HR0
        obtain ⟨i, rfl, hi, HFR⟩ := hrel
        by_cases hik : i < mn
        · have hiM : i < M.length := by rw [← HMN.out]; exact hik
          obtain ⟨g1, o1, hb1, p1⟩ := uv_at (HV1.out.keep HFR.out (by simp)) hiM
          obtain ⟨g2, o2, hb2, q1⟩ := uv_at (HV2.out.keep HFR.out (by simp)) hiM
          subst hb1 hb2
          obtain ⟨v, hv⟩ : ∃ v, v = M.getD i 0 := ⟨_, rfl⟩
          rw [← hv] at p1 q1
          have g1' : decide ((i : Int) < (mn : Int)) = true := decide_eq_true (by omega)
          have g2' : decide (i < mn) = true := decide_eq_true hik
          have hmi : (i : Int) < (mn : Int) := by omega
          have hbv : ((v : Int) == (v : Int)) = true := by simp
          have hwm : IntKind.i64.wrap ((i : Int) + 1) = ((i + 1 : Nat) : Int) := by rw [IntWalk.i64_in _ (by omega)]; rfl
          obtain ⟨m, hm⟩ : ∃ m, m = i + 1 := ⟨_, rfl⟩
          rw [← hm] at hwm
          have HMM : Hid (m ≤ mn ∧ mn - m < mn - i) := Lib.hid (by omega)
          clear hv hm hiM
          go_upto_region 22 with fail
          go_region
          go_wp2
          go_roundw
          case rel => exact ⟨m, rfl, HMM.out.1, Lib.hid HFR.out.drew⟩
          case measure => have := HMM.out; simpa [intOf] using this.2
        · have g1' : decide ((i : Int) < (mn : Int)) = false := decide_eq_false (by omega)
          have g2' : decide (i < mn) = false := decide_eq_false hik
          have HE2 := Lib.hid (HE.out wr HFR.out)
          go_wp2
          exact HE2.out
    have n5 : ((k : Int) % 7 == 5) = false := by rw [m1, beq_eq_false_iff_ne]; omega
    by_cases c6 : r = 6
    · have n6 : ((k : Int) % 7 == 6) = true := by rw [m1, c6]; rfl
      have HC1 := Lib.hid (wrclose_u HM3.out.pr)
      have HC2 : Hid (∀ z, Frm [px] wq z → Calls Try.prog 39 #[.pointer (some ⟨pm, 0, none⟩)] z fun e w' => e = .returned (.tuple #[.int .u64 (clN D su : Nat), .int .i64 (clE D su : Nat)]) ∧ Dw w' B pm [px] G P W A D H su (clC D su cl) ∧ Frm (pm :: G) z w') := Lib.hid fun z hz => dwclose_u (HM3.out.dw.keep hz (fun x hx => .inl hx) (fun x hx => .inl hx)) HL5.out
      obtain ⟨cn, hcn⟩ : ∃ cn, cn = clN D su := ⟨_, rfl⟩
      obtain ⟨ce, hce⟩ : ∃ ce, ce = clE D su := ⟨_, rfl⟩
      rw [← hcn, ← hce] at HC1 HC2
      have d1 : ((cn : Int) == (cn : Int)) = true := by simp
      have d2 : ((ce : Int) == (ce : Int)) = true := by simp
      clear hcn hce m1 c01 c5 c6 hr7 K2 K3
      go_wp2_with fail
      (with_reducible refine HC1.out.mono ?_)
      rintro ex w1 ⟨rfl, hq1, hf1⟩
      have HQ1 := Lib.hid hq1
      have HF1 := Lib.hid hf1
      clear hq1 hf1 HC1
      go_wp2_with fail
      (with_reducible refine (HC2.out _ HF1.out).mono ?_)
      rintro ex w2 ⟨rfl, hd2, hf2⟩
      have HE := Lib.hid (HPW.out w2 G D H su _ (Pw.next HQ1.out hd2 hf2 (fun g hg => .inl hg)).pr hd2 (HF1.out.trans hf2 (fun x hx => by simp at hx; simp [hx]) (fun x hx => .inl (List.mem_cons_of_mem _ hx))) (fun g hg => .inl hg) (Nat.le_succ _))
      clear hd2 hf2 HC2
      go_wp2
      exact HE.out
    have n6 : ((k : Int) % 7 == 6) = false := by rw [m1, beq_eq_false_iff_ne]; omega
    have HK1 : Hid (∀ z, Frm [] wq z → Calls Try.prog 17 #[.pointer (some ⟨px, 0, none⟩), .int .i64 pl, .int .u64 (en : Nat)] z fun e w' => ∃ s H' a c X, e = .returned (.slice a X.length c) ∧ AckTo P W A D H su pl en s H' ∧ its X = itemsN D su s ∧ IL w' (List.range z.heap.size) a X ∧ Wq w' B px (pm :: G) P W A D H' s cl ∧ Frm [px] z w') := Lib.hid fun z hz => wrack_u pl en (HM3.out.pr.here hz) hen
    clear m1 c01 c5 c6 hr7
    go_upto_region 30 with fail
    refine wp_region_held_drew (S := fun w' => Frm (px :: pm :: G) wq w') (by kernel_rfl) (Frm.drew (Frm.refl _ _)) (fun hHeld => ?_)
    refine wpAnyH_take (i := 0) (oi := ⟨some 138, _, _, _, _, _⟩) (v := ?_) rfl (by kernel_rfl) (by kernel_rfl) (by kernel_rfl) (fun _ _ _ h => h) (Or.inl ⟨by rfl, ?_⟩) (by assumption) ?_
    rotate_left 1
    · (intro w hSw; (try dsimp only at hSw); have k2 := K2 w hSw; have k3 := K3 w hSw; go_simp; all_goals with_reducible rfl)
    try simp only [Act.put, List.setIfInBounds_toArray, List.set_cons_zero, List.set_cons_succ]
    refine wpAnyH_take (i := 1) (oi := ⟨some 139, _, _, _, _, _⟩) (v := ?_) rfl (by kernel_rfl) (by kernel_rfl) (by kernel_rfl) (fun _ _ _ h => h) (Or.inl ⟨by rfl, ?_⟩) (by assumption) ?_
    rotate_left 1
    · (intro w hSw; (try dsimp only at hSw); have k2 := K2 w hSw; have k3 := K3 w hSw; go_simp; all_goals with_reducible rfl)
    try simp only [Act.put, List.setIfInBounds_toArray, List.set_cons_zero, List.set_cons_succ]
    refine wpAnyH_take (i := 2) (oi := ⟨some 140, _, _, _, _, _⟩) (v := ?_) rfl (by kernel_rfl) (by kernel_rfl) (by kernel_rfl) (fun _ _ _ h => h) (Or.inl ⟨by rfl, ?_⟩) (by assumption) ?_
    rotate_left 1
    · (intro w hSw; (try dsimp only at hSw); have k2 := K2 w hSw; have k3 := K3 w hSw; go_simp; all_goals with_reducible rfl)
    try simp only [Act.put, List.setIfInBounds_toArray, List.set_cons_zero, List.set_cons_succ]
    refine wpAnyH_take (i := 3) (oi := ⟨some 141, _, _, _, _, _⟩) (v := ?_) rfl (by kernel_rfl) (by kernel_rfl) (by kernel_rfl) (fun _ _ _ h => h) (Or.inl ⟨by rfl, ?_⟩) (by assumption) ?_
    rotate_left 1
    · (intro w hSw; (try dsimp only at hSw); have k2 := K2 w hSw; have k3 := K3 w hSw; go_simp; all_goals with_reducible rfl)
    try simp only [Act.put, List.setIfInBounds_toArray, List.set_cons_zero, List.set_cons_succ]
    refine wpAnyH_take (i := 4) (oi := ⟨some 142, _, _, _, _, _⟩) (v := ?_) rfl (by kernel_rfl) (by kernel_rfl) (by kernel_rfl) (fun _ _ _ h => h) (Or.inl ⟨by rfl, ?_⟩) (by assumption) ?_
    rotate_left 1
    · (intro w hSw; (try dsimp only at hSw); have k2 := K2 w hSw; have k3 := K3 w hSw; go_simp; all_goals with_reducible rfl)
    try simp only [Act.put, List.setIfInBounds_toArray, List.set_cons_zero, List.set_cons_succ]
    refine wpAnyH_take (i := 6) (oi := ⟨some 144, _, _, _, _, _⟩) (v := ?_) rfl (by kernel_rfl) (by kernel_rfl) (by kernel_rfl) (fun _ _ _ h => h) (Or.inl ⟨by rfl, ?_⟩) (by assumption) ?_
    rotate_left 1
    · (intro w hSw; (try dsimp only at hSw); have k2 := K2 w hSw; have k3 := K3 w hSw; go_simp; all_goals with_reducible rfl)
    try simp only [Act.put, List.setIfInBounds_toArray, List.set_cons_zero, List.set_cons_succ]
    refine wpAnyH_take (i := 7) (oi := ⟨some 145, _, _, _, _, _⟩) (v := ?_) rfl (by kernel_rfl) (by kernel_rfl) (by kernel_rfl) (fun _ _ _ h => h) (Or.inl ⟨by rfl, ?_⟩) (by assumption) ?_
    rotate_left 1
    · (intro w hSw; (try dsimp only at hSw); have k2 := K2 w hSw; have k3 := K3 w hSw; go_simp; all_goals with_reducible rfl)
    try simp only [Act.put, List.setIfInBounds_toArray, List.set_cons_zero, List.set_cons_succ]
    refine wpAnyH_take (i := 8) (oi := ⟨some 146, _, _, _, _, _⟩) (v := ?_) rfl (by kernel_rfl) (by kernel_rfl) (by kernel_rfl) (fun _ _ _ h => h) (Or.inl ⟨by rfl, ?_⟩) (by assumption) ?_
    rotate_left 1
    · (intro w hSw; (try dsimp only at hSw); have k2 := K2 w hSw; have k3 := K3 w hSw; go_simp; all_goals with_reducible rfl)
    try simp only [Act.put, List.setIfInBounds_toArray, List.set_cons_zero, List.set_cons_succ]
    refine wpAnyH_take (i := 9) (oi := ⟨some 147, _, _, _, _, _⟩) (v := ?_) rfl (by kernel_rfl) (by kernel_rfl) (by kernel_rfl) (fun _ _ _ h => h) (Or.inl ⟨by rfl, ?_⟩) (by assumption) ?_
    rotate_left 1
    · (intro w hSw; (try dsimp only at hSw); have k2 := K2 w hSw; have k3 := K3 w hSw; go_simp; all_goals with_reducible rfl)
    try simp only [Act.put, List.setIfInBounds_toArray, List.set_cons_zero, List.set_cons_succ]
    refine wpAnyH_take (i := 10) (oi := ⟨some 148, _, _, _, _, _⟩) (v := ?_) rfl (by kernel_rfl) (by kernel_rfl) (by kernel_rfl) (fun _ _ _ h => h) (Or.inl ⟨by rfl, ?_⟩) (by assumption) ?_
    rotate_left 1
    · (intro w hSw; (try dsimp only at hSw); have k2 := K2 w hSw; have k3 := K3 w hSw; go_simp; all_goals with_reducible rfl)
    try simp only [Act.put, List.setIfInBounds_toArray, List.set_cons_zero, List.set_cons_succ]
    refine wpAnyH_ready (rs := [5]) (by kernel_rfl) (by simp) ?_
    refine AllReadyH.cons (o := ⟨some 143, _, _, _, _, _⟩) rfl (fun K hK => ?_) AllReadyH.nil
    go_simp
    ((with_reducible refine (HK1.out _ (Frm.refl _ _).drew).mono ?_); rintro ex w5 ⟨s1, H1, a1, c1, X1, rfl, hto, hi1, hil1, hq5, hf5⟩; have hd5 := HM3.out.dw.keep ((Frm.refl [] wq).drew.trans hf5 (U := [px]) (by simp) (fun x hx => .inl hx)) (F' := [px]) (fun x hx => .inl hx) (fun x hx => .inl hx); have hs5 : Frm (px :: pm :: G) wq w5 := ((Frm.refl [] wq).drew.trans hf5 (U := px :: pm :: G) (by simp) (fun x hx => .inl (by simp at hx; simp [hx])))); obtain ⟨k1, hk1⟩ : ∃ k1, k1 = X1.length := ⟨_, rfl⟩; rw [← hk1]; have HKL := Lib.hid hk1; clear hk1
    go_wp2_with fail
    refine hK.out _ _ (by assumption) (fun hHeld => ?_)
    clear hK K
    try simp only [Act.put, List.setIfInBounds_toArray, List.set_cons_zero, List.set_cons_succ]
    refine wpAnyH_ready (rs := [11]) (by kernel_rfl) (by simp) ?_
    refine AllReadyH.cons (o := ⟨some 149, _, _, _, _, _⟩) rfl (fun K hK => ?_) AllReadyH.nil
    go_simp
    ((with_reducible refine (dwack_u pl en hd5 HL5.out (by have := hq5.lt; simpa using this) hen).mono ?_); rintro ex w6 ⟨s2, H2, a2, c2, X2, rfl, hto2, hi2, hil2, hd6, hf6⟩; have hs6 : Frm (px :: pm :: G) wq w6 := hs5.trans hf6 (fun x hx => hx) (fun x hx => .inl (List.mem_cons_of_mem _ hx))); obtain ⟨rfl, rfl⟩ := hto.one hto2; have hxl : X2.length = k1 := (by have h1 := its_length X1; have h2 := its_length X2; rw [hi1] at h1; rw [hi2] at h2; have h3 := HKL.out; omega); rw [hxl]; have hsm := sameItems_true a1 a2 k1 c1 c2 X1 X2 [] [] w6 ((hil1.keep hf6 (F' := []) (fun x hx => .inl (List.mem_range.2 (by have := HLT.out x (List.mem_cons_of_mem _ hx); have := HSZ.out; show x < wq.heap.size; omega))) (by simp))) (hil2.keep (Frm.refl [] _) (F' := []) (by simp) (by simp)) HKL.out (by rw [hi1, hi2]) (by have h1 := its_length X1; rw [hi1, itemsN_len] at h1; have h3 := HKL.out; have := HL5.out; have := hq5.wait; omega)
    go_wp2_with fail
    refine hK.out _ _ (by assumption) (fun hHeld => ?_)
    clear hK K
    try simp only [Act.put, List.setIfInBounds_toArray, List.set_cons_zero, List.set_cons_succ]
    refine wpAnyH_ready (rs := [12]) (by kernel_rfl) (by simp) ?_
    refine AllReadyH.cons (o := ⟨some 150, _, _, _, _, _⟩) rfl (fun K hK => ?_) AllReadyH.nil
    go_simp
    ((with_reducible refine hsm.mono ?_); rintro ex w7 ⟨rfl, hf7⟩; have hs7 : Frm (px :: pm :: G) wq w7 := hs6.trans hf7 (fun x hx => hx) (by simp))
    go_wp2_with fail
    refine hK.out _ _ (by assumption) (fun hHeld => ?_)
    clear hK K
    try simp only [Act.put, List.setIfInBounds_toArray, List.set_cons_zero, List.set_cons_succ]
    refine wpAnyH_take (i := 13) (oi := ⟨some 6, _, _, _, _, _⟩) (v := ?_) rfl (by kernel_rfl) (by kernel_rfl) (by kernel_rfl) (fun _ _ _ h => h) (Or.inl ⟨by rfl, ?_⟩) (by assumption) ?_
    rotate_left 1
    · (intro w hSw; (try dsimp only at hSw); have k2 := K2 w hSw; have k3 := K3 w hSw; go_simp; all_goals with_reducible rfl)
    try simp only [Act.put, List.setIfInBounds_toArray, List.set_cons_zero, List.set_cons_succ]
    refine wpAnyH_done (by kernel_rfl) ?_ _
    have hpw := Pw.next hq5 hd6 hf6 (fun g hg => .inl hg)
    have HE := Lib.hid (HPW.out w7 G D _ _ cl (hpw.pr.here hf7) (hd6.here hf7) hs7 (fun g hg => .inl hg) (Nat.le_succ _))
    clear K2 K3 hs5 hs6 hs7 hq5 hd5 hd6 hf5 hf6 hf7 hpw hil1 hil2 hto hto2 hi1 hi2 hsm hxl e0
    go_wp2
    exact HE.out
end Go.Proofs.Ytecfoomjpjcldaa
