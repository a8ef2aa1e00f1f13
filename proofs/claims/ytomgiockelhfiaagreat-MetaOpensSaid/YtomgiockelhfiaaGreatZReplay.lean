/- Contract of the document's Replay. -/
import Derived.Test.YtomgiockelhfiaaGreatMX
import Derived.Test.YtomgiockelhfiaaGreatZReSnap
import Derived.Test.YtomgiockelhfiaaGreatZLCap
namespace Go.Proofs.YtomgiockelhfiaaGreat
open Go.RowKit
set_option maxRecDepth 100000
theorem ds_new (w : World) (B : Nat) (hB : B ≤ w.heap.size) : Ds (w.alloc (.cells #[.int .u64 0, .slice none 0 0, .int .u64 0, .slice none 0 0] 46)) B w.heap.size [] {} := by
  have hW := Whole.made w 46 #[.int .u64 0, .slice none 0 0, .int .u64 0, .slice none 0 0]
  exact ⟨hW.cell 0, ⟨none, 0, [], ⟨hW.cell 1, fun j => hW.free j, NOwn.nil _ _ _ _, hB, by simp, by simp⟩, ⟨List.Pairwise.nil, List.Perm.refl _⟩⟩, none, 0, ⟨hW.cell 2, hW.cell 3, fun j => hW.free j, SOwn.nil _ _ _ _, hB, by simp, by simp, by show (0 : Nat) < 18446744073709551616; omega⟩⟩
def RyRel (w : World) (q : Nat) (L : List (List Nat)) (s5 : Value) (wr : World) : Prop :=
  ∃ (k : Nat) (S : MS), k ≤ L.length ∧ s5 = .int .i64 (k : Nat) ∧ Hid (repAll {} L = repAll S (L.drop k)) ∧ Hid (Ds wr w.heap.size q [] S) ∧ Hid (MOk S) ∧ Hid (Frm [] w wr)
/-- What Replay answers. -/
def ReplE (w : World) (L : List (List Nat)) (e : Ending) (w' : World) : Prop :=
  (∃ S q, repAll {} L = some S ∧ e = .returned (.tuple #[.pointer (some ⟨q, 0, none⟩), .bool true]) ∧ Ds w' w.heap.size q [] S ∧ MOk S ∧ Frm [] w w') ∨ (repAll {} L = none ∧ e = .returned (.tuple #[.pointer none, .bool false]) ∧ Frm [] w w')
/-- A record that is no snapshot. -/
theorem rep1_cmd {S : MS} {b : List Nat} {x : Nat} {o1 o6 : Option (List Nat)} {c : MC} (h1 : pU 1 b = o1.map (Prod.mk x)) (h7 : o1 = none ∨ x ≠ 7) (h6 : o1.bind (pC x) = o6.map (Prod.mk c)) :
    (o6 = some [] → rep1 S b = if doE S c = 0 then some (doS S c) else none) ∧ (o6 ≠ some [] → rep1 S b = none) := by
  cases o1 with
  | none =>
    have hr : rep1 S b = none := by unfold rep1; rw [h1]; rfl
    cases o6 with
    | none => exact ⟨(fun h => by cases h), fun _ => hr⟩
    | some l => cases h6
  | some l1 =>
    have hx : x ≠ 7 := by rcases h7 with h | h; cases h; exact h
    have hr : rep1 S b = repC S (pC x l1) := by
      unfold rep1
      rw [h1]
      show (if x = 7 then repS (pS l1) else repC S (pC x l1)) = _
      rw [if_neg hx]
    have h6' : pC x l1 = o6.map (Prod.mk c) := h6
    rw [hr, h6']
    cases o6 with
    | none => exact ⟨(fun h => by cases h), fun _ => rfl⟩
    | some l =>
      cases l with
      | nil => exact ⟨fun _ => rfl, fun h => absurd rfl h⟩
      | cons y l => exact ⟨(fun h => by cases h), fun _ => rfl⟩
theorem rep1_snap {S : MS} {b l1 : List Nat} (h1 : pU 1 b = some (7, l1)) : rep1 S b = repS (pS l1) := by
  unfold rep1
  rw [h1]
  rfl
set_option maxHeartbeats 16000000 in
theorem rreplay_any (a0 : Option Addr) (n cap : Nat) (L : List (List Nat)) (w : World) (h : LL w [] a0 L) (hc : LCap w a0 L) (hn : n = L.length) (hn63 : n ≤ 9223372036854775807) (hs : ∀ b ∈ L, b.length ≤ 4096) :
    Calls Tryz.prog 61 #[.slice a0 n cap] w (ReplE w L) := by
  obtain ⟨Bd, hBd⟩ : ∃ Bd, Bd = w.heap.size := ⟨_, rfl⟩
  obtain ⟨q, hq⟩ : ∃ q, q = w.heap.size := ⟨_, rfl⟩
  obtain ⟨w0, hw0⟩ : ∃ w0, w0 = w.alloc (.cells #[.int .u64 0, .slice none 0 0, .int .u64 0, .slice none 0 0] 46) := ⟨_, rfl⟩
  have hf0 : Frm [] w w0 := by rw [hw0]; exact (Frm.refl _ _).alloc _
  have hd0 : Ds w0 w.heap.size q [] {} := by rw [hw0, hq]; exact ds_new w _ (Nat.le_refl _)
  have HR0 : Hid (RyRel w q L (.int .i64 (0 : Nat)) w0) := Lib.hid ⟨0, {}, Nat.zero_le _, rfl, Lib.hid rfl, Lib.hid hd0, Lib.hid MOk.first, Lib.hid hf0⟩
  have HH := Lib.hid h
  have HLC := Lib.hid hc
  have HN := Lib.hid hn
  have HS := Lib.hid hs
  have HW0 := Lib.hid hw0
  have HQQ := Lib.hid hq
  have HBD := Lib.hid hBd
  obtain ⟨Q, hQ⟩ : ∃ Q, Q = ReplE w L := ⟨_, rfl⟩
  have HQ := Lib.hid hQ
  rw [← hQ]
  clear h hc hn hs hw0 hd0 hf0 hQ hq hBd
  go_enter Tryz.func61, Tryz.ntmps61
  go_wp2
  rw [← HW0.out, ← HQQ.out]
  go_loopw [5] (fun s5 wr => RyRel w q L s5 wr) (fun s5 _ => n - (intOf s5).toNat)
  case atStart => exact HR0.out
  case round =>
    clear HR0
    obtain ⟨k, S, hk, rfl, HRP, HD, HM, HF⟩ := hrel
    by_cases hlt : k < n
    · have hkL : k < L.length := by have := HN.out; omega
      obtain ⟨bb, off, rfl, ai, ci, p0, hby, _, hnl⟩ := (HH.out.keep (F' := []) HF.out (by simp) (by simp)).at hkL
      obtain ⟨_, _, hax, ai0, ci0, p00, hby0, _, _⟩ := HH.out.at hkL
      have hdrop : L.drop k = L.getD k [] :: L.drop (k + 1) := by
        rw [List.drop_eq_getElem_cons hkL]; simp [hkL]
      have hbl := HS.out (L.getD k []) (by simp [hkL])
      have hai : ai0 = ai := by
        have h1 := (HF.out.cell (p := ⟨_, _, none⟩) (block_lt_of_cell p00) (by simp)).trans p00
        simp only [Option.some.injEq, Addr.mk.injEq] at hax
        obtain ⟨e1, e2, _⟩ := hax
        subst e1; subst e2
        rw [p0] at h1
        simp at h1
        exact h1.1.symm
      have hcap : (L.getD k []).length ≤ ci := by
        obtain ⟨b1, o1, ai1, ci1, e1, e2, e3⟩ := (HLC.out.keep HF.out) k hkL
        simp only [Option.some.injEq, Addr.mk.injEq] at e1
        obtain ⟨e4, e5, _⟩ := e1
        subst e4; subst e5
        rw [p0] at e2
        simp at e2
        rw [e2.2]; exact e3
      obtain ⟨b, hb⟩ : ∃ b, b = L.getD k [] := ⟨_, rfl⟩
      rw [← hb] at p0 hby hby0 hdrop hbl hcap
      rw [hai] at hby0
      have hblk : b ≠ [] → ∀ y, ai = some y → y.block < Bd := fun hne y hy => by rw [HBD.out]; exact bytes_lt hby0 hne y hy
      have HDR : Hid (∀ o, rep1 S b = o → repAll {} L = o.bind fun S' => repAll S' (L.drop (k + 1))) := Lib.hid fun o ho => by
        rw [HRP.out, hdrop]
        show (rep1 S b).bind _ = _
        rw [ho]
      have H8 := Lib.hid hby.1
      have HBL := Lib.hid hbl
      obtain ⟨bn, hbn⟩ : ∃ bn, bn = b.length := ⟨_, rfl⟩
      obtain ⟨w1, hw1⟩ : ∃ w1, w1 = wr.alloc (.cells #[.slice ai bn ci, .int .i64 0] 181) := ⟨_, rfl⟩
      obtain ⟨rb, hrb⟩ : ∃ rb, rb = wr.heap.size := ⟨_, rfl⟩
      have hW1 := Whole.made wr 181 #[.slice ai bn ci, .int .i64 0]
      rw [← hw1, ← hrb] at hW1
      have hf1 : Frm [] wr w1 := by rw [hw1]; exact (Frm.refl _ _).alloc _
      have hBr : Bd ≤ rb := by have h1 := HF.out.size; have h2 := HBD.out; omega
      have HR1 : Hid (RS w1 Bd rb (some b)) := Lib.hid ⟨ai, b, ci, 0, by rw [← hbn]; exact hW1, hf1.bytes' hby (by simp), hcap, hnl, hblk, hBr, .inl ⟨rfl, rfl⟩⟩
      have HW1 := Lib.hid hw1
      have HRB := Lib.hid hrb
      have hqr : q < rb := by have h1 := HD.out.plt; omega
      have HDR1 := Lib.hid (HD.out.more (F' := [rb]) hf1 (fun x hx => by simp at hx; subst hx; exact .inr (by omega)))
      have HF1 := Lib.hid (HF.out.trans hf1 (U := []) (by simp) (by simp))
      rw [← hbn] at p0
      clear hby hnl hby0 hai hax p00 hdrop hbl hcap hb hblk hbn hw1 hrb hW1 hf1 hkL
      go_wp2_with fail
      rw [← HW1.out, ← HRB.out]
      clear p0
      (with_reducible refine (rs_num 1 1 rfl HR1.out (by omega)).mono ?_)
      rintro e w2 ⟨x, o1, rfl, hp1, hx, hr2, hf2⟩
      have HP1 : Hid (pU 1 b = o1.map (Prod.mk x)) := Lib.hid hp1
      have HX : Hid (x < 256) := Lib.hid hx
      have ex : IntKind.u8.wrap (x : Int) = (x : Int) := by have : x < 256 := hx; simp [IntKind.wrap, IntKind.bits, IntKind.signed]; omega
      have ex2 : (x : Int) % 256 = (x : Int) := by have : x < 256 := hx; omega
      obtain ⟨w3, hw3⟩ : ∃ w3, w3 = w2.alloc (.cells #[.int .u8 (x : Nat), .string ⟨#[]⟩, .slice none 0 0, .int .u64 0, .int .u64 0, .int .u64 0] 51) := ⟨_, rfl⟩
      obtain ⟨g, hg⟩ : ∃ g, g = w2.heap.size := ⟨_, rfl⟩
      have hW3 := Whole.made w2 51 #[.int .u8 (x : Nat), .string ⟨#[]⟩, .slice none 0 0, .int .u64 0, .int .u64 0, .int .u64 0]
      rw [← hw3, ← hg] at hW3
      have hf3 : Frm [] w2 w3 := by rw [hw3]; exact (Frm.refl _ _).alloc _
      have hrl := hr2.lt
      have hgr : g ≠ rb := by omega
      have hgB : Bd ≤ g := by omega
      have HR3 := Lib.hid (hr2.keep hf3 (by simp) (by simp))
      have HD3 := Lib.hid ((HDR1.out.keep hf2 (by simp; omega) (fun x hx => .inl (by simp at hx; simp [hx]))).keep hf3 (by simp) (by simp))
      have HDG := Lib.hid ((HDR1.out.keep hf2 (by simp; omega) (fun x hx => .inl (by simp at hx; simp [hx]))).more (F' := [rb, g]) hf3 (fun x hx => by
        simp at hx
        rcases hx with rfl | rfl
        · exact .inl (by simp)
        · exact .inr (by omega)))
      have HQN : Hid (q ∉ [rb, g]) := Lib.hid (by simp; omega)
      have HRG : Hid (∀ y ∈ [rb, g], y < w3.heap.size) := Lib.hid fun y hy => by
        simp at hy
        have h1 := hf3.size
        have h2 := hW3.lt
        rcases hy with rfl | rfl <;> omega
      have HF3 : Hid (Frm [] w w3) := Lib.hid ((HF1.out.trans hf2 (U := []) (by simp) (fun x hx => .inr (by simp at hx; have := HBD.out; omega))).trans hf3 (by simp) (by simp))
      obtain ⟨code, k1, hcode⟩ := HR3.out.code
      have HCODE := Lib.hid hcode
      have HW3 := Lib.hid hw3
      have HG := Lib.hid hg
      have HWG3 := Lib.hid hW3
      rw [hw3] at k1
      clear hp1 hx hr2 hf2 hw3 hg hW3 hf3 hrl hcode HR1
      by_cases hsn : code = 0 ∧ x = 7
      · obtain ⟨rfl, rfl⟩ := hsn
        have h7 : ∃ l1, o1 = some l1 := by
          cases h : o1 with
          | none => exact absurd h (HCODE.out.1 rfl)
          | some l1 => exact ⟨l1, rfl⟩
        obtain ⟨l1, rfl⟩ := h7
        have HRS := Lib.hid (rep1_snap (S := S) (show pU 1 b = some (7, l1) from HP1.out))
        have HSN := Lib.hid (rsnap_any (F := [rb]) HD3.out HR3.out (fun y hy => by
          simp at hy
          have h2 := HBD.out
          have h3 := HD.out.hp
          rcases hy with rfl | rfl <;> omega) (by simp) (fun y hy => by simp at hy; subst hy; exact HR3.out.lt.2))
        have k2 := k1
        rw [show ((0 : Nat) : Int) = 0 from rfl] at k2
        rw [show ((7 : Nat) : Int) = 7 from rfl] at HW3 k2
        clear k1 ex ex2
        go_wp2_with fail
        rw [← HW3.out]
        clear k2
        (with_reducible refine HSN.out.mono ?_)
        rintro e w4 (⟨S', hr, rfl, hd4, hf4⟩ | ⟨hr, rfl, hf4⟩)
        · have hr1 : rep1 S b = some S' := HRS.out.trans hr
          have hf04 : Frm [] w w4 := HF3.out.trans hf4 (by simp) (fun x hx => .inr (by simp at hx; have h2 := HBD.out; have h3 := HD.out.hp; rcases hx with rfl | rfl <;> omega))
          have HREL : Hid (RyRel w q L (.int .i64 ((k + 1 : Nat) : Nat)) w4) := Lib.hid ⟨k + 1, S', by have := HN.out; omega, rfl, Lib.hid (by rw [HDR.out _ hr1]; rfl), Lib.hid (hd4.more (F' := []) (Frm.refl _ _) (by simp)), Lib.hid (rep1_ok hr1 HM.out H8.out HBL.out), Lib.hid hf04⟩
          clear hr1 hf04 hr hd4 hf4 HSN
          go_wp2
          go_roundw
          case rel => exact HREL.out
          case measure => simp [intOf]; omega
        · have HE : Hid (Q (.returned (.tuple #[.pointer none, .bool false])) w4) := Lib.hid (by
            rw [HQ.out]
            exact .inr ⟨by rw [HDR.out _ (HRS.out.trans hr)]; rfl, rfl, HF3.out.trans hf4 (by simp) (fun x hx => .inr (by simp at hx; have := HBD.out; omega))⟩)
          clear hr hf4 HSN
          go_wp2
          exact HE.out
      · have HX7 : Hid (o1 = none ∨ x ≠ 7) := Lib.hid (by
          by_cases h0 : code = 0
          · exact .inr (fun h => hsn ⟨h0, h⟩)
          · refine .inl ?_
            cases o1 with
            | none => rfl
            | some l => exact absurd (HCODE.out.2 (by simp)) h0)
        have hgu : (((code : Int) == 0) = false) ∨ (((code : Int) == 0) = true ∧ ((x : Int) == 7) = false) := by
          by_cases h0 : code = 0
          · refine .inr ⟨by rw [beq_iff_eq]; omega, ?_⟩
            rw [beq_eq_false_iff_ne]; intro h; exact hsn ⟨h0, by omega⟩
          · exact .inl (by rw [beq_eq_false_iff_ne]; omega)
        clear hsn
        rcases hgu with hu | ⟨hu, hu2⟩
        all_goals
          go_wp2_with fail
          rw [← HW3.out, ← HG.out]
          clear k1 ex ex2
          (with_reducible refine (rs_bytes HR3.out).mono ?_)
          rintro e w4 ⟨kv, ka, kn, kc, oa, rfl, hkn, ha, hkb, hkB, hknil, hra, hfa⟩
          have HA := Lib.hid ha
          have cvk : (Go.convert 35 9 (.slice ka kn kc)).run Tryz.prog w4 = .ok (.string (strOf kv)) w4 := run_to_string (P := Tryz.prog) (src := 35) (dst := 9) (e := 5) Tryz.underlying35 Tryz.underlying5 Tryz.underlying9 hkb hkn.out
          have hW4 := hfa.whole HWG3.out (by simpa using hgr)
          obtain ⟨w5, hw5⟩ : ∃ w5, w5 = w4.setCell ⟨g, 1, none⟩ (.string (strOf kv)) := ⟨_, rfl⟩
          have hW5 : Whole w5 g 51 #[.int .u8 (x : Nat), .string (strOf kv), .slice none 0 0, .int .u64 0, .int .u64 0, .int .u64 0] := by rw [hw5]; simpa using hW4.put 1 (.string (strOf kv))
          have hfn : Frm [g] w4 w5 := by rw [hw5]; exact (Frm.refl _ _).setCell (.inl (by simp)) _
          have HR5 := Lib.hid (hra.keep hfn (fun x hx => by simp at hx; omega) (by simpa using Ne.symm hgr))
          have HFX5 : Hid (Frm [rb, g] w3 w5) := Lib.hid (((Frm.refl [rb, g] w3).trans hfa (U := [rb, g]) (fun _ h => h) (fun x hx => .inl (by simp at hx; simp [hx]))).trans hfn (fun _ h => h) (fun x hx => .inl (by simp at hx; simp [hx])))
          have HW5 := Lib.hid hw5
          have HWG5 := Lib.hid hW5
          have yc := hW4.cell 1
          have zc := hW4.free 1
          simp at yc
          clear ha hkb hkB hknil hra hfa hfn hW4 hw5 hW5 HR3
          go_wp2_with fail
          rw [← HW5.out]
          clear yc zc cvk
          (with_reducible refine (rs_bytes HR5.out).mono ?_)
          rintro e w6 ⟨vv, va, vn, vc, ob8, rfl, hvn, hb6, hvb, hvB, hvnil, hrb6, hfb⟩
          have HB6 := Lib.hid hb6
          have HVB := Lib.hid hvb
          have HVBD := Lib.hid hvB
          have HVNIL := Lib.hid hvnil
          have hW6 := hfb.whole HWG5.out (by simpa using hgr)
          obtain ⟨w7, hw7⟩ : ∃ w7, w7 = w6.setCell ⟨g, 2, none⟩ (.slice va vn vc) := ⟨_, rfl⟩
          have hW7 : Whole w7 g 51 #[.int .u8 (x : Nat), .string (strOf kv), .slice va vn vc, .int .u64 0, .int .u64 0, .int .u64 0] := by rw [hw7]; simpa using hW6.put 2 (.slice va vn vc)
          have hfn : Frm [g] w6 w7 := by rw [hw7]; exact (Frm.refl _ _).setCell (.inl (by simp)) _
          have HR7 := Lib.hid (hrb6.keep hfn (fun x hx => by simp at hx; omega) (by simpa using Ne.symm hgr))
          have HFX7 : Hid (Frm [rb, g] w3 w7) := Lib.hid ((HFX5.out.trans hfb (U := [rb, g]) (fun _ h => h) (fun x hx => .inl (by simp at hx; simp [hx]))).trans hfn (fun _ h => h) (fun x hx => .inl (by simp at hx; simp [hx])))
          have HW7 := Lib.hid hw7
          have HWG7 := Lib.hid hW7
          have yc := hW6.cell 2
          have zc := hW6.free 2
          simp at yc
          have HV67 := Lib.hid hfn
          clear hb6 hvb hvB hvnil hrb6 hfb hfn hW6 hw7 hW7 HR5
          go_wp2_with fail
          rw [← HW7.out]
          clear yc zc
          (with_reducible refine (rs_num 8 8 rfl HR7.out (by omega)).mono ?_)
          rintro e w8 ⟨x3, oc, rfl, hc, hx3, hrc, hfc⟩
          have HC := Lib.hid hc
          have hx3' : x3 < 18446744073709551616 := hx3
          have hW8 := hfc.whole HWG7.out (by simpa using hgr)
          obtain ⟨w9, hw9⟩ : ∃ w9, w9 = w8.setCell ⟨g, 3, none⟩ (.int .u64 (x3 : Nat)) := ⟨_, rfl⟩
          have hW9 : Whole w9 g 51 #[.int .u8 (x : Nat), .string (strOf kv), .slice va vn vc, .int .u64 (x3 : Nat), .int .u64 0, .int .u64 0] := by rw [hw9]; simpa using hW8.put 3 (.int .u64 (x3 : Nat))
          have hfn : Frm [g] w8 w9 := by rw [hw9]; exact (Frm.refl _ _).setCell (.inl (by simp)) _
          have HR9 := Lib.hid (hrc.keep hfn (fun x hx => by simp at hx; omega) (by simpa using Ne.symm hgr))
          have HFX9 : Hid (Frm [rb, g] w3 w9) := Lib.hid ((HFX7.out.trans hfc (U := [rb, g]) (fun _ h => h) (fun x hx => .inl (by simp at hx; simp [hx]))).trans hfn (fun _ h => h) (fun x hx => .inl (by simp at hx; simp [hx])))
          have HW9 := Lib.hid hw9
          have HWG9 := Lib.hid hW9
          have yc := hW8.cell 3
          have zc := hW8.free 3
          simp at yc
          have HV79 := Lib.hid ((hfc.trans hfn (U := [rb, g]) (by simp) (by simp) : Frm [rb, g] w7 w9))
          clear hc hx3 hrc hfc hfn hW8 hw9 hW9 HR7
          go_wp2_with fail
          rw [← HW9.out]
          clear yc zc
          (with_reducible refine (rs_num 8 8 rfl HR9.out (by omega)).mono ?_)
          rintro e wa ⟨x4, od, rfl, hdd, hx4, hrd, hfd⟩
          have HD4 := Lib.hid hdd
          have hx4' : x4 < 18446744073709551616 := hx4
          have hWa := hfd.whole HWG9.out (by simpa using hgr)
          obtain ⟨wb, hwb⟩ : ∃ wb, wb = wa.setCell ⟨g, 4, none⟩ (.int .u64 (x4 : Nat)) := ⟨_, rfl⟩
          have hWb : Whole wb g 51 #[.int .u8 (x : Nat), .string (strOf kv), .slice va vn vc, .int .u64 (x3 : Nat), .int .u64 (x4 : Nat), .int .u64 0] := by rw [hwb]; simpa using hWa.put 4 (.int .u64 (x4 : Nat))
          have hfn : Frm [g] wa wb := by rw [hwb]; exact (Frm.refl _ _).setCell (.inl (by simp)) _
          have HRb := Lib.hid (hrd.keep hfn (fun x hx => by simp at hx; omega) (by simpa using Ne.symm hgr))
          have HFXb : Hid (Frm [rb, g] w3 wb) := Lib.hid ((HFX9.out.trans hfd (U := [rb, g]) (fun _ h => h) (fun x hx => .inl (by simp at hx; simp [hx]))).trans hfn (fun _ h => h) (fun x hx => .inl (by simp at hx; simp [hx])))
          have HWb := Lib.hid hwb
          have HWGb := Lib.hid hWb
          have yc := hWa.cell 4
          have zc := hWa.free 4
          simp at yc
          have HV9b := Lib.hid ((hfd.trans hfn (U := [rb, g]) (by simp) (by simp) : Frm [rb, g] w9 wb))
          clear hdd hx4 hrd hfd hfn hWa hwb hWb HR9
          go_wp2_with fail
          rw [← HWb.out]
          clear yc zc
          (with_reducible refine (rs_num 8 8 rfl HRb.out (by omega)).mono ?_)
          rintro e wc ⟨x5, oe, rfl, hee, hx5, hre, hfe⟩
          have HE5 := Lib.hid hee
          have hx5' : x5 < 18446744073709551616 := hx5
          have hWc := hfe.whole HWGb.out (by simpa using hgr)
          obtain ⟨wd, hwd⟩ : ∃ wd, wd = wc.setCell ⟨g, 5, none⟩ (.int .u64 (x5 : Nat)) := ⟨_, rfl⟩
          have hWd : Whole wd g 51 #[.int .u8 (x : Nat), .string (strOf kv), .slice va vn vc, .int .u64 (x3 : Nat), .int .u64 (x4 : Nat), .int .u64 (x5 : Nat)] := by rw [hwd]; simpa using hWc.put 5 (.int .u64 (x5 : Nat))
          have hfn : Frm [g] wc wd := by rw [hwd]; exact (Frm.refl _ _).setCell (.inl (by simp)) _
          have HRd := Lib.hid (hre.keep hfn (fun x hx => by simp at hx; omega) (by simpa using Ne.symm hgr))
          have HFXd : Hid (Frm [rb, g] w3 wd) := Lib.hid ((HFXb.out.trans hfe (U := [rb, g]) (fun _ h => h) (fun x hx => .inl (by simp at hx; simp [hx]))).trans hfn (fun _ h => h) (fun x hx => .inl (by simp at hx; simp [hx])))
          have HWd := Lib.hid hwd
          have HWGd := Lib.hid hWd
          have yc := hWc.cell 5
          have zc := hWc.free 5
          simp at yc
          have HVbd := Lib.hid ((hfe.trans hfn (U := [rb, g]) (by simp) (by simp) : Frm [rb, g] wb wd))
          clear hee hx5 hre hfe hfn hWc hwd hWd HRb
          go_wp2_with fail
          rw [← HWd.out]
          clear yc zc
          (with_reducible refine (rs_end HRd.out).mono ?_)
          rintro e we ⟨ec, rfl, hec, hff⟩
          obtain ⟨c, hcc⟩ : ∃ c : MC, c = ⟨x, strOf kv, vv, x3, x4, x5⟩ := ⟨_, rfl⟩
          have h6 : o1.bind (pC x) = oe.map (Prod.mk c) := by rw [hcc]; exact pC_steps HA.out HB6.out HC.out HD4.out HE5.out
          have HREP := Lib.hid (rep1_cmd (S := S) HP1.out HX7.out h6)
          have HEC := Lib.hid hec
          have hWe := hff.whole HWGd.out (by simpa using hgr)
          have hf3e : Frm [rb, g] w3 we := HFXd.out.trans hff (fun _ h => h) (fun x hx => .inl (by simp at hx; simp [hx]))
          have HFE : Hid (Frm [] w we) := Lib.hid (HF3.out.trans hf3e (by simp) (fun x hx => .inr (by simp at hx; have := HBD.out; omega)))
          have HDE := Lib.hid (HDG.out.keep hf3e HQN.out (fun x hx => .inl (List.mem_cons_of_mem _ hx)))
          have NO : Hid (rep1 S b = none → Q (.returned (.tuple #[.pointer none, .bool false])) we) := Lib.hid fun h0 => by
            rw [HQ.out]
            exact .inr ⟨by rw [HDR.out _ h0]; rfl, rfl, HFE.out⟩
          by_cases hz : ec = 0
          · subst hz
            have hoe : oe = some [] := HEC.out.1 rfl
            have hr1 := HREP.out.1 hoe
            have HR1 := Lib.hid hr1
            have hcok : MCOk c := by
              cases o1 with
              | none => rw [hoe] at h6; cases h6
              | some l1 =>
                rw [hoe] at h6
                have h6' : pC x l1 = some (c, []) := h6
                have hp1 : pU 1 b = some (x, l1) := HP1.out
                have hl1 : (∀ y ∈ l1, y < 256) ∧ l1.length ≤ 4096 := by
                  unfold pU at hp1
                  split at hp1
                  · cases hp1
                  · simp at hp1
                    obtain ⟨_, rfl⟩ := hp1
                    exact ⟨fun y hy => H8.out y (List.mem_of_mem_tail hy), by rw [List.length_tail]; have := HBL.out; omega⟩
                exact (pC_fit h6' hl1.1 HX.out hl1.2).1
            have hbe : Bytes we va vv := by
              have h1 : Frm [rb, g] w6 we := (((HV67.out.trans HV79.out (U := [rb, g]) (by simp) (fun x hx => .inl hx)).trans (HV9b.out.trans HVbd.out (U := [rb, g]) (fun _ h => h) (fun x hx => .inl hx)) (fun _ h => h) (fun x hx => .inl hx))).trans hff (fun _ h => h) (fun x hx => .inl (by simp at hx; simp [hx]))
              exact h1.bytes' HVB.out (fun hne y hy hm => by have h2 := HVBD.out hne y hy; simp at hm; omega)
            have HDO := Lib.hid (rdo_any c va vc HDE.out HM.out hcok (fun y hy => by
              have h1 := hf3e.size
              have h2 := HRG.out y hy
              omega) (by rw [hcc]; exact hbe) HVNIL.out)
            rw [hcc] at HDO
            rw [show cmdV ⟨x, strOf kv, vv, x3, x4, x5⟩ va vc = .agg #[.int .u8 (x : Nat), .string (strOf kv), .slice va vv.length vc, .int .u64 (x3 : Nat), .int .u64 (x4 : Nat), .int .u64 (x5 : Nat)] from rfl, ← hvn.out, ← hcc] at HDO
            have HCOK := Lib.hid hcok
            have e0 := hWe.cell 0
            have e1 := hWe.cell 1
            have e2 := hWe.cell 2
            have e3 := hWe.cell 3
            have e4 := hWe.cell 4
            have e5 := hWe.cell 5
            simp at e0 e1 e2 e3 e4 e5
            unfold RdEnd at HDO
            obtain ⟨en, hen⟩ : ∃ en, en = doE S c := ⟨_, rfl⟩
            rw [← hen] at HDO
            have HEN := Lib.hid hen
            clear hoe hr1 hcok hbe hcc h6 hec hff hWe hf3e hen NO
            go_wp2_with fail
            (with_reducible refine HDO.out.mono ?_)
            rintro e wf ⟨ga, gc, rfl, _, _, hdf, hff, _⟩
            have HFF : Hid (Frm [] w wf) := Lib.hid (HFE.out.trans hff (by simp) (fun x hx => .inr (by simp at hx; have h3 := HD.out.hp; omega)))
            have HDF := Lib.hid (hdf.more (F' := []) (Frm.refl _ _) (by simp))
            clear e0 e1 e2 e3 e4 e5 hdf hff HDO
            by_cases hz2 : en = 0
            · subst hz2
              have hr1 : rep1 S b = some (doS S c) := by rw [HR1.out, if_pos HEN.out.symm]
              have HREL : Hid (RyRel w q L (.int .i64 ((k + 1 : Nat) : Nat)) wf) := Lib.hid ⟨k + 1, doS S c, by have := HN.out; omega, rfl, Lib.hid (by rw [HDR.out _ hr1]; rfl), HDF, Lib.hid (HM.out.does HCOK.out), HFF⟩
              clear hr1
              go_wp2
              go_roundw
              case rel => exact HREL.out
              case measure => simp [intOf]; omega
            · have hne : ((en : Int) != 0) = true := by rw [bne_iff_ne]; omega
              have HE : Hid (Q (.returned (.tuple #[.pointer none, .bool false])) wf) := Lib.hid (by
                rw [HQ.out]
                exact .inr ⟨by rw [HDR.out _ (HR1.out.trans (if_neg (by rw [← HEN.out]; exact hz2)))]; rfl, rfl, HFF.out⟩)
              clear hz2
              go_wp2
              exact HE.out
          · have hne : ((ec : Int) != 0) = true := by rw [bne_iff_ne]; omega
            have HE := Lib.hid (NO.out (HREP.out.2 (fun h => hz (HEC.out.2 h))))
            clear hz h6 hec hff hWe hf3e hcc NO
            go_wp2
            exact HE.out
    · obtain rfl : k = n := by have := HN.out; omega
      have hdr : L.drop k = [] := by rw [HN.out]; exact List.drop_length
      have HE : Hid (Q (.returned (.tuple #[.pointer (some ⟨q, 0, none⟩), .bool true])) wr) := Lib.hid (by
        rw [HQ.out]
        exact .inl ⟨S, q, by rw [HRP.out, hdr]; rfl, rfl, HD.out, HM.out, HF.out⟩)
      clear hdr
      go_wp2
      exact HE.out
end Go.Proofs.YtomgiockelhfiaaGreat
