/- PackRow: for every slice of slices of bytes the law answers true and writes nothing that was there. No condition. -/
import Derived.Test.YthoidlfaeabalaaPkTurnMath
import Derived.Test.YthoidlfaeabalaaPkFrames
namespace Go.Proofs.Ythoidlfaeabalaa
open Go.RowKit

theorem frm_at {w w' : World} {S : List Nat} {a : Addr} {v : Value} (hf : Frm S w w') (h : w.cell? a = some v) (hn : a.block ∉ S) : w'.cell? a = some v := (hf.cell (block_lt_of_cell h) hn).trans h
/-- A slice of slices of bytes that came in. -/
structure RowsIn (w : World) (a : Option Addr) (len : Nat) (A : Nat → Option Addr) (C : Nat → Nat) (M : List (List Nat)) : Prop where
  size : M.length = len
  cells : 0 < len → ∃ b off, a = some ⟨b, off, none⟩ ∧ ∀ r, r < len → w.cell? ⟨b, off + r, none⟩ = some (.slice (A r) (M.getD r []).length (C r))
  bytes : ∀ r, r < len → Bytes w (A r) (M.getD r [])
  le : ∀ r, r < len → (M.getD r []).length ≤ C r
  nil : ∀ r, r < len → A r = none → C r = 0

/-- Frames, one behind the other. -/
def allF (M : List (List Nat)) : List Nat := (M.map fr).flatten
theorem allF_take (M : List (List Nat)) (i : Nat) (h : i < M.length) : allF (M.take (i + 1)) = allF (M.take i) ++ fr (M.getD i []) := by
  have e : M.getD i [] = M[i] := by simp [h]
  rw [e]
  unfold allF
  rw [List.take_succ_eq_append_getElem h, List.map_append, List.flatten_append, List.map_singleton, List.flatten_singleton]
theorem allF_drop (M : List (List Nat)) (i : Nat) (h : i < M.length) : allF (M.drop i) = fr (M.getD i []) ++ allF (M.drop (i + 1)) := by
  have e : M.getD i [] = M[i] := by simp [h]
  rw [e]
  unfold allF
  rw [List.drop_eq_getElem_cons h, List.map_cons, List.flatten_cons]
theorem allF_len (M : List (List Nat)) (h : ∀ l ∈ M, l.length ≤ 500) : (allF M).length ≤ 508 * M.length := by
  induction M with
  | nil => simp [allF]
  | cons l M ih =>
    have h1 := ih (fun x hx => h x (by simp [hx]))
    have h2 := h l (by simp)
    have e : allF (l :: M) = fr l ++ allF M := rfl
    rw [e, List.length_append, fr_length, List.length_cons]
    omega
theorem allF_lt (M : List (List Nat)) (h : ∀ l ∈ M, ∀ c ∈ l, c < 256) : ∀ c ∈ allF M, c < 256 := by
  intro c hc
  simp only [allF, List.mem_flatten, List.mem_map] at hc
  obtain ⟨x, ⟨l, hl, rfl⟩, hcx⟩ := hc
  exact fr_lt (h l hl) c hcx
theorem getD_mem {M : List (List Nat)} {i : Nat} (h : i < M.length) : M.getD i [] ∈ M := by simp [h]

/-- Unframe of a frame with anything behind it. -/
theorem unframe_frame (a : Option Addr) (n cap : Nat) (l m : List Nat) (w : World) (hc : Cl w (fr l ++ m) a cap) (hn : n = (fr l ++ m).length) (hl : l.length ≤ 4096) (hfit : n ≤ 140737488355328) :
    Calls Try.prog 24 #[.slice a n cap] w fun e w' =>
      ∃ a1 cap1 a2 cap2, e = .returned (.tuple #[.slice a1 l.length cap1, .slice a2 m.length cap2, .int .i64 0]) ∧ Cl w' l a1 cap1 ∧ Cl w' m a2 cap2 ∧ Frm [] w w' := by
  have h8 : ∀ c ∈ l, c < 256 := fun c hc' => hc.bytes.1 c (by simp [fr, hc'])
  have hlen : (fr l ++ m).length = l.length + 8 + m.length := by rw [List.length_append, fr_length]
  refine (unframe_ok a n cap (fr l ++ m) w hc.bytes hn (by rw [hn]; exact hc.le) hc.nil hfit hc.fits l.length (sumN l) (by rw [fr_take4, val_len hl]) (by rw [fr_drop4, val_sum h8]) (by omega) hl (by omega) (by rw [fr_drop8, List.take_left' rfl])).mono ?_
  rintro e w' ⟨a1, cap1, a2, cap2, rfl, k1, k2, hf⟩
  rw [fr_drop8, List.take_left' rfl] at k1
  rw [← List.drop_drop, fr_drop8, List.drop_left' rfl] at k2
  exact ⟨a1, cap1, a2, cap2, by rw [show (fr l ++ m).length - (8 + l.length) = m.length by omega], k1, k2, hf⟩

/-- At the head of the first loop: so many frames are laid. -/
def Rel1 (w0 : World) (M : List (List Nat)) (len : Nat) (v i : Value) (wr : World) : Prop :=
  ∃ (k : Nat) (a : Option Addr) (cap : Nat), k ≤ len ∧ k ≤ 31 ∧ i = .int .i64 k ∧ v = .slice a (allF (M.take k)).length cap ∧ wr.ownsRow w0.heap.size 5 1 (.slice a (allF (M.take k)).length cap) (allF (M.take k)).length ((allF (M.take k)).map u8v) ∧
    Frm [] w0 wr ∧ ∀ l ∈ M.take k, l.length ≤ 500
/-- At the head of the second one: so many are taken. -/
def Rel2 (w0 : World) (M : List (List Nat)) (len : Nat) (v i : Value) (wr : World) : Prop :=
  ∃ (k : Nat) (a : Option Addr) (cap : Nat), k ≤ len ∧ i = .int .i64 k ∧ v = .slice a (allF (M.drop k)).length cap ∧ Cl wr (allF (M.drop k)) a cap ∧ Frm [] w0 wr

set_option maxRecDepth 100000 in
set_option maxHeartbeats 4000000 in
theorem packRow_walk (a : Option Addr) (len cap : Nat) (A : Nat → Option Addr) (C : Nat → Nat) (M : List (List Nat)) (w : World) (h : RowsIn w a len A C M) (hlen : len ≤ 9223372036854775807) :
    Calls Try.prog 8 #[.slice a len cap] w fun e w' => e = .returned (.bool true) ∧ Below w.heap.size w w' := by
  obtain ⟨i0, hi, hz0, hz1, hz2⟩ := info_parts Try.info5
  have HI := Lib.hid hi; clear hi
  have HZ0 := Lib.hid hz0; clear hz0
  have HZ1 := Lib.hid hz1; clear hz1
  have HZ2 := Lib.hid hz2; clear hz2
  have H := Lib.hid h; clear h
  go_enter Try.func8, Try.ntmps8
  go_wp2_with fail
  refine (awake2_any w).mono ?_
  rintro e w0 ⟨rfl, hb0⟩
  have HB0 := Lib.hid hb0; clear hb0
  go_wp2
  go_loopw [3, 20] (fun v i wr => Rel1 w0 M len v i wr) (fun _ i _ => len - (intOf i).toNat)
  case atStart => exact ⟨0, none, 0, Nat.zero_le _, by omega, rfl, rfl, World.ownsRow_nil _ _ _ _, Frm.refl _ _, by simp⟩
  case round =>
    obtain ⟨k, ak, ck, hk, hk31, rfl, rfl, hown, hf, hsm⟩ := hrel
    have HF := Lib.hid hf; clear hf
    have HSM := Lib.hid hsm; clear hsm
    have hBr : Hid (Below w.heap.size w wr) := HB0.out.trans (HF.out.below (by simp) HB0.out.size)
    by_cases hlt : k < len
    · obtain ⟨b, off, rfl, hcl⟩ := H.out.cells (by omega)
      have hcell : wr.cell? ⟨b, off + k, none⟩ = some (.slice (A k) (M.getD k []).length (C k)) := frm_at HF.out (frm_at (Frm.ofBelow HB0.out) (hcl k hlt) (by simp)) (by simp)
      have hbk : Bytes wr (A k) (M.getD k []) := HF.out.bytes ((H.out.bytes k hlt).later HB0.out) (by simp)
      have hks := H.out.size
      obtain ⟨l, hl⟩ : ∃ l, l = M.getD k [] := ⟨_, rfl⟩
      obtain ⟨n, hn⟩ : ∃ n, n = l.length := ⟨_, rfl⟩
      have hstep := allF_take M k (by omega)
      have hmem : ∀ x ∈ M.take (k + 1), x ∈ M.take k ∨ x = l := fun x hx => by
        rw [List.take_succ_eq_append_getElem (by omega)] at hx
        rcases List.mem_append.1 hx with h | h
        · exact .inl h
        · right; simp at h; rw [h, hl]; simp [show k < M.length by omega]
      rw [← hl] at hstep hbk hcell
      rw [← hn] at hcell
      have hnb : n ≤ 9223372036854775807 := by rw [hn]; exact hbk.2.1
      have HBK := Lib.hid hbk; clear hbk
      have HST := Lib.hid hstep; clear hstep
      have HMEM := Lib.hid hmem; clear hmem
      have HN := Lib.hid hn; clear hn
      have hnil := Lib.hid (H.out.nil k hlt)
      clear hcl hl
      have HAL : Hid ((allF (M.take k)).length ≤ 508 * 31) := by
        have h1 := allF_len (M.take k) HSM.out
        rw [List.length_take] at h1
        show _ ≤ _
        omega
      obtain ⟨P, hP⟩ : ∃ P, P = allF (M.take k) := ⟨_, rfl⟩
      obtain ⟨p, hp⟩ : ∃ p, p = P.length := ⟨_, rfl⟩
      rw [← hP] at HAL HST
      rw [← hP, ← hp] at hown ⊢
      obtain ⟨xs, hxs⟩ : ∃ xs, xs = P.map u8v := ⟨_, rfl⟩
      rw [← hxs] at hown
      have HXS := Lib.hid hxs; clear hxs
      have HP := Lib.hid hp; clear hp
      have HOWN := Lib.hid hown; clear hown
      clear hP
      by_cases hbig : 30 < k ∨ 500 < n
      · clear hks
        go_wp2
        all_goals first | (exfalso; omega) | (go_ret; exact ⟨rfl, hBr.out⟩)
      · have hk30 : k ≤ 30 := by omega
        have hn5 : n ≤ 500 := by omega
        clear hbig hks
        go_wp2_with fail
        refine (frame_ok (A k) n (C k) l wr HBK.out HN.out hnil.out (by omega)).mono ?_
        rintro e w1 ⟨af, cf, rfl, hof, hff⟩
        have h8f := fr_lt HBK.out.1
        have hclf := own_cl hof h8f
        have hflen := fr_length l
        obtain ⟨f, hfe⟩ : ∃ f, f = (fr l).length := ⟨_, rfl⟩
        have hf8 : f = n + 8 := by rw [hfe, hflen, HN.out]
        rw [← hfe]
        have hown1 := hff.own HOWN.out (by simp)
        have HCLF := Lib.hid hclf
        have HO1 := Lib.hid hown1
        have HFF := Lib.hid hff
        have HFE := Lib.hid hfe
        have hpfit : p + f ≤ 140737488355328 := by have h1 := HAL.out; have h2 := HP.out; omega
        clear hof h8f hclf hflen hown1 hff hfe
        subst hf8
        go_wp2_with (at_builtin; refine wpList_app rfl (.tmp 47) (.tmp 48) 26 rfl w0.heap.size 5 i0 Try.underlying26 HI.out HZ0.out HZ1.out HZ2.out (.slice ak p ck) p xs rfl HO1.out _ _ _ (fr l) rfl HCLF.out.bytes HFE.out HCLF.out.nil hpfit ?base1 ?_)
        case base1 => exact Nat.le_trans HF.out.size HFF.out.size
        intro a2 cap2 w2 happ
        have hw02 : Frm [] w0 w2 := (HF.out.trans HFF.out (U := []) (by simp) (by simp)).grown happ.grown (fun q hq => .inr ((HO1.out.lt q hq).1))
        have hown2 := happ.own
        rw [HXS.out, ← List.map_append, ← HST.out] at hown2
        have hlen2 : p + (n + 8) = (allF (M.take (k + 1))).length := by rw [HST.out, List.length_append, ← HP.out, ← HFE.out]
        have hsm2 : ∀ x ∈ M.take (k + 1), x.length ≤ 500 := fun x hx => by
          rcases HMEM.out x hx with h | h
          · exact HSM.out x h
          · rw [h, ← HN.out]; exact hn5
        have R : Rel1 w0 M len (.slice a2 (p + (n + 8)) cap2) (.int .i64 (k + 1 : Nat)) w2 :=
          ⟨k + 1, a2, cap2, hlt, by omega, rfl, by rw [hlen2], by rw [hlen2] at hown2; exact hown2, hw02, hsm2⟩
        have HR := Lib.hid R; clear R happ hw02 hown2 hlen2 hsm2
        go_wp2
        go_roundw
        case rel => exact HR.out
        case measure => simp [intOf]; omega
    · obtain rfl : k = len := by omega
      have eM : M.take k = M := List.take_of_length_le (by rw [H.out.size]; exact Nat.le_refl _)
      rw [eM] at hown HSM ⊢
      have h8M : ∀ l ∈ M, ∀ c ∈ l, c < 256 := fun l hl => by
        obtain ⟨i, hi, rfl⟩ := List.getElem_of_mem hl
        have hik : i < k := by rw [← H.out.size]; exact hi
        have := (H.out.bytes i hik).1
        simpa [hi] using this
      have hcl0 := own_cl hown (allF_lt M h8M)
      have HCL0 := Lib.hid hcl0
      have hL31 := allF_len M HSM.out
      have HL31 := Lib.hid hL31
      clear hown hcl0 hL31 eM
      obtain ⟨wo, hwo⟩ : ∃ wo : World, wo = wr := ⟨_, rfl⟩
      rw [← hwo] at HF hBr HCL0 ⊢
      clear hwo
      go_wp2
      go_loopw [3, 53] (fun v i wr => Rel2 w0 M k v i wr) (fun _ i _ => k - (intOf i).toNat)
      case atStart => exact ⟨0, ak, ck, Nat.zero_le _, rfl, rfl, HCL0.out, HF.out⟩
      case round =>
        obtain ⟨i, ai, ci, hi, rfl, rfl, hcl, hf⟩ := hrel
        have HF2 := Lib.hid hf
        have HCL := Lib.hid hcl
        have HBW : Hid (Below w.heap.size w wr) := HB0.out.trans (hf.below (by simp) HB0.out.size)
        have hMs := H.out.size
        have hbnd : (allF (M.drop i)).length ≤ 508 * 31 := by
          have h1 := allF_len (M.drop i) (fun x hx => HSM.out x (List.mem_of_mem_drop hx))
          rw [List.length_drop] at h1
          omega
        clear hf hcl
        obtain ⟨D, hD⟩ : ∃ D, D = allF (M.drop i) := ⟨_, rfl⟩
        obtain ⟨d, hd⟩ : ∃ d, d = D.length := ⟨_, rfl⟩
        rw [← hD, ← hd] at hbnd
        rw [← hD] at HCL
        rw [← hD, ← hd]
        have hdc : d ≤ ci := by rw [hd]; exact HCL.out.le
        have hccm := HCL.out.fits
        by_cases hlt2 : i < k
        · obtain ⟨b, off, rfl, hcl⟩ := H.out.cells (by omega)
          have hcell : wr.cell? ⟨b, off + i, none⟩ = some (.slice (A i) (M.getD i []).length (C i)) := frm_at HF2.out (frm_at (Frm.ofBelow HB0.out) (hcl i hlt2) (by simp)) (by simp)
          have hbk : Bytes wr (A i) (M.getD i []) := HF2.out.bytes ((H.out.bytes i hlt2).later HB0.out) (by simp)
          have hl5 := HSM.out (M.getD i []) (getD_mem (by omega))
          have hstep := allF_drop M i (by omega)
          rw [← hD] at hstep
          obtain ⟨l, hl⟩ : ∃ l, l = M.getD i [] := ⟨_, rfl⟩
          obtain ⟨n, hn⟩ : ∃ n, n = l.length := ⟨_, rfl⟩
          obtain ⟨m, hm⟩ : ∃ m, m = allF (M.drop (i + 1)) := ⟨_, rfl⟩
          rw [← hl] at hbk hcell hl5 hstep
          rw [← hn] at hcell hl5
          rw [← hm] at hstep
          have HBK := Lib.hid hbk
          have HN := Lib.hid hn
          have HM := Lib.hid hm
          have HDD := Lib.hid hd
          have HS := Lib.hid hstep
          clear hcl hbk hl hn hm hd hD hMs hstep
          go_wp2_with fail
          refine (unframe_frame ai d ci l m wr (by rw [← HS.out]; exact HCL.out) (by rw [← HS.out]; exact HDD.out) (by rw [← HN.out]; omega) (by omega)).mono ?_
          rintro e w2 ⟨a1, c1, a2, c2, rfl, k1, k2, hf2⟩
          have q1 := to_string (c := c1) k1.bytes HN.out
          have q2 := to_string (c := C i) (hf2.bytes HBK.out (by simp)) HN.out
          rw [← HN.out]
          have R : Rel2 w0 M k (.slice a2 m.length c2) (.int .i64 (i + 1 : Nat)) w2 :=
            ⟨i + 1, a2, c2, hlt2, rfl, by rw [HM.out], by rw [← HM.out]; exact k2, HF2.out.trans hf2 (by simp) (by simp)⟩
          have HR := Lib.hid R
          clear R k1 k2 hf2
          go_wp2
          go_roundw
          case rel => exact HR.out
          case measure => simp [intOf]; omega
        · obtain rfl : i = k := by omega
          have e0 : D = [] := by rw [hD, List.drop_eq_nil_of_le (by omega)]; rfl
          have d0 : d = 0 := by rw [hd, e0]; rfl
          subst d0
          rw [e0] at HCL
          clear e0 hd hD hMs hbnd
          go_wp2_with fail
          refine (unframe_short ai 0 ci [] wr HCL.out.bytes rfl (by omega) HCL.out.nil (by omega) hccm (by omega)).mono ?_
          rintro e w2 ⟨rfl, hf2⟩
          have HBE := Lib.hid (HBW.out.trans (hf2.below (by simp) HBW.out.size))
          clear hf2
          go_wp2
          go_ret
          exact ⟨rfl, HBE.out⟩
end Go.Proofs.Ythoidlfaeabalaa
