/- JournalWrites: the walk. -/
import Derived.Test.YteidfplenleogaaZJnLawCrash
import Derived.Deep.RegionHeld3
namespace Go.Proofs.Yteidfplenleogaa
open Go.RowKit

/-- At the head of the loop: W is on the disk and in want. -/
structure WrIn (w : World) (wr : World) (p q : Nat) (X : Option Addr) (L : List (List Nat)) (room s : Nat) (F : List Nat) (W : List Nat) (a : Option Addr) (c : Nat) : Prop where
  dk : Dk wr p p F W s room
  jn : Jn wr q p
  row : wr.ownsRow w.heap.size 5 1 (.slice a W.length c) W.length (W.map u8v)
  away : ∀ g ∈ blk a, g ∉ F
  all : LL wr (blk a ++ F) X L
  frm : Frm [] w wr
def WrRel (w : World) (p q : Nat) (X : Option Addr) (L : List (List Nat)) (room : Nat) (u12 u13 u37 : Value) (wr : World) : Prop :=
  ∃ k s F W a c, k ≤ L.length ∧ k ≤ 41 ∧ W.length ≤ room ∧ s ≤ W.length ∧ u12 = .slice a W.length c ∧ u13 = .int .i64 (s : Nat) ∧ u37 = .int .i64 (k : Nat) ∧ WrIn w wr p q X L room s F W a c

theorem own_blk {a : Option Addr} {n c g : Nat} : (Value.slice a n c).ownBlock = some g ↔ g ∈ blk a := by cases a <;> simp [Value.ownBlock, eq_comm]
theorem row_lt {w : World} {base : Nat} {e : TypeId} {n c : Nat} {a : Option Addr} {xs : List Value} (h : w.ownsRow base e 1 (.slice a n c) n xs) : ∀ g ∈ blk a, base ≤ g ∧ g < w.heap.size := fun g hg => World.ownsRow.lt h g (own_blk.2 hg)

/-- Behind a record that was written, laid or refused. -/
theorem WrIn.next {w w2 w3 : World} {p q : Nat} {X : Option Addr} {L : List (List Nat)} {room s3 : Nat} {F : List Nat} {W W2 : List Nat} {s : Nat} {a2 : Option Addr} {c2 : Nat} (hB : w.heap.size ≤ p) (hd : Dk w2 p p F W s room) (hj : Jn w2 q p)
    (hr : w2.ownsRow w.heap.size 5 1 (.slice a2 W2.length c2) W2.length (W2.map u8v)) (ha : ∀ g ∈ blk a2, g ∉ F) (hl : LL w2 (blk a2 ++ F) X L) (hf : Frm [] w w2) (h : DkTo w2 w3 p p F W2 s3 room) :
    ∃ F3, WrIn w w3 p q X L room s3 F3 W2 a2 c2 := by
  obtain ⟨F3, hd3, hf3, hx3⟩ := h
  refine ⟨F3, hd3, hj.keep hf3 (hj.notin hd), hf3.own hr (fun g hg => ha g (own_blk.1 hg)), fun g hg hm => ?_, hl.keep hf3 (fun x h => .inl (by simp [h])) (fun x h => ?_), hf.dk hB hd hf3⟩
  · rcases hx3 g hm with h | h
    · exact ha g hg h
    · have := (row_lt hr g hg).2; omega
  · rcases List.mem_append.1 h with h1 | h1
    · exact .inl (by simp [h1])
    · rcases hx3 x h1 with h2 | h2
      · exact .inl (by simp [h2])
      · exact .inr h2
theorem WrIn.keep {w wr w' : World} {p q : Nat} {X : Option Addr} {L : List (List Nat)} {room s : Nat} {F : List Nat} {W : List Nat} {a : Option Addr} {c : Nat} (C : WrIn w wr p q X L room s F W a c) (hf : Frm [] wr w') : WrIn w w' p q X L room s F W a c :=
  ⟨C.dk.keep hf (by simp), C.jn.keep hf (by simp), hf.own C.row (by simp), C.away, C.all.keep hf (by simp) (fun x h => .inl h), C.frm.trans hf (by simp) (by simp)⟩

set_option maxRecDepth 100000 in
set_option maxHeartbeats 4000000 in
theorem journalWrites_walk (room : Nat) (a0 : Option Addr) (n0 c0 : Nat) (L : List (List Nat)) (a1 : Option Addr) (n1 c1 : Nat) (bs : List Bool) (w : World) (hroom : room < 65536) (h0 : LIn w a0 c0 L) (e0 : n0 = L.length) (_f0 : n0 ≤ 9223372036854775807) (h1 : BIn w a1 bs) (e1 : n1 = bs.length) (_f1 : n1 ≤ 9223372036854775807) :
    Calls Try.prog 4 #[.int .u16 (room : Nat), .slice a0 n0 c0, .slice a1 n1 c1] w fun e w' => e = .returned (.bool true) ∧ Below w.heap.size w w' := by
  obtain ⟨i0, hi, hz0, hz1, hz2⟩ := info_parts Try.info5
  have HI := Lib.hid hi; clear hi
  have HZ0 := Lib.hid hz0; clear hz0
  have HZ1 := Lib.hid hz1; clear hz1
  have HZ2 := Lib.hid hz2; clear hz2
  have H0 := Lib.hid h0; clear h0
  have H1 := Lib.hid h1; clear h1
  have E0 := Lib.hid e0; clear e0
  have E1 := Lib.hid e1; clear e1
  go_enter Try.func4, Try.ntmps4
  go_wp2_with fail
  refine (awake5_any w).mono ?_
  rintro e w1 ⟨rfl, hb⟩
  have HF1 := Lib.hid (Frm.ofBelow hb); clear hb
  go_wp2_with fail
  refine (new_ok room _ (by omega)).mono ?_
  rintro e w2 ⟨rfl, hd, hf, hz⟩
  have hsz := HF1.out.size
  obtain ⟨p, hp⟩ : ∃ p, p = w1.heap.size := ⟨_, rfl⟩
  rw [← hp] at hd hsz ⊢
  have HD2 := Lib.hid hd
  have HF2 := Lib.hid (HF1.out.trans hf (U := []) (by simp) (by simp))
  clear hd hf hz hp HF1
  go_wp2_with fail
  refine (jopen_any HD2.out).mono ?_
  rintro e w6 ⟨q, F6, ao, co, vo, rfl, op6⟩
  have hd6 := op6.dk
  rw [recs_nil.2] at hd6
  have hd6 : Dk w6 p p F6 [] 0 room := hd6
  have HF6 := Lib.hid (HF2.out.dk hsz HD2.out op6.frm)
  have C0 : WrIn w w6 p q a0 L room 0 F6 [] none 0 := ⟨hd6, op6.jn, World.ownsRow_nil _ _ _ _, by simp, H0.out.ll.keep HF6.out (by simp) (fun x hx => .inr (by have := (hd6.lt x (by simpa using hx)).1; omega)), HF6.out⟩
  have HC0 := Lib.hid (show WrRel w p q a0 L room (.slice none 0 0) (.int .i64 0) (.int .i64 0) w6 from ⟨0, 0, F6, [], none, 0, Nat.zero_le _, by omega, Nat.zero_le _, Nat.le_refl _, rfl, rfl, rfl, C0⟩)
  obtain ⟨r, hr⟩ : ∃ r, r = (recs []).length := ⟨_, rfl⟩
  rw [← hr]
  clear op6 hd6 hr HF2 HD2 C0
  go_wp2_with fail
  go_loopw [12, 13, 37] (fun u12 u13 u37 wr => WrRel w p q a0 L room u12 u13 u37 wr) (fun _ _ u37 _ => n0 - (intOf u37).toNat)
  case atStart => exact HC0.out
  case round =>
    obtain ⟨k, s, F, W, a, c, hk, hk41, hWr, hsW, rfl, rfl, rfl, C⟩ := hrel
    have HC := Lib.hid C; clear C
    have HFR := Lib.hid HC.out.frm
    by_cases hlt : k < n0
    · have hkL : k < L.length := by have := E0.out; omega
      obtain ⟨bb, oo, rfl, ai, ci, hcell, hbi, hap, hni⟩ := HC.out.all.at hkL
      obtain ⟨b, hb⟩ : ∃ b, b = L.getD k [] := ⟨_, rfl⟩
      rw [← hb] at hcell hbi hap
      obtain ⟨nb, hnb⟩ : ∃ nb, nb = b.length := ⟨_, rfl⟩
      rw [← hnb] at hcell
      have hnb63 : nb ≤ 9223372036854775807 := by rw [hnb]; exact hbi.2.1
      have HBI := Lib.hid hbi; clear hbi
      have HAP := Lib.hid hap; clear hap
      have HNI := Lib.hid hni; clear hni
      have HNB := Lib.hid hnb; clear hnb
      have HKL := Lib.hid hkL; clear hkL hk hb
      obtain ⟨t, ht⟩ : ∃ t, t = W.length := ⟨_, rfl⟩
      rw [← ht] at hWr hsW ⊢
      have HT := Lib.hid ht; clear ht
      by_cases h40 : 40 < k
      · go_wp2
        go_ret
        exact ⟨rfl, HFR.out.new⟩
      by_cases h5 : 5000 < nb
      · go_wp2
        go_ret
        exact ⟨rfl, HFR.out.new⟩
      have hlay : (¬ k < n1 ∨ (k < n1 ∧ ∃ b1 o1, a1 = some ⟨b1, o1, none⟩ ∧ wr.cell? ⟨b1, o1 + k, none⟩ = some (.bool false))) ∨ (k < n1 ∧ ∃ b1 o1, a1 = some ⟨b1, o1, none⟩ ∧ wr.cell? ⟨b1, o1 + k, none⟩ = some (.bool true)) := by
        by_cases hl : k < n1
        · obtain ⟨b1, o1, h1, h2⟩ := (H1.out.keep HFR.out) k (by have := E1.out; omega)
          cases hv : bs.getD k false
          · rw [hv] at h2; exact .inl (.inr ⟨hl, b1, o1, h1, h2⟩)
          · rw [hv] at h2; exact .inr ⟨hl, b1, o1, h1, h2⟩
        · exact .inl (.inl hl)
      have hlen : (fr b).length = nb + 8 := by rw [fr_length, HNB.out]
      have HLEN := Lib.hid hlen; clear hlen
      have W8f := Lib.hid (fr_lt HBI.out.1)
      obtain ⟨x1, y1, hx1⟩ : ∃ x1 y1, (¬ k < n1 ∨ (k < n1 ∧ a1 = some ⟨x1, y1, none⟩ ∧ wr.cell? ⟨x1, y1 + k, none⟩ = some (.bool false))) ∨ (k < n1 ∧ a1 = some ⟨x1, y1, none⟩ ∧ wr.cell? ⟨x1, y1 + k, none⟩ = some (.bool true)) := by
        rcases hlay with (h | ⟨h, b1, o1, h1, h2⟩) | ⟨h, b1, o1, h1, h2⟩
        · exact ⟨0, 0, .inl (.inl h)⟩
        · exact ⟨b1, o1, .inl (.inr ⟨h, h1, h2⟩)⟩
        · exact ⟨b1, o1, .inr ⟨h, h1, h2⟩⟩
      clear hlay
      rcases hx1 with (hl | ⟨hl, ha1, hc1⟩) | ⟨hl, ha1, hc1⟩
      all_goals
        try subst ha1
        go_wp2_with fail
        refine (ref_frame_any ai nb ci b wr HBI.out HNB.out HNI.out (by omega)).mono ?_
        rintro e w1 ⟨af, cf, rfl, hbf, hff⟩
        try clear hc1
        obtain ⟨f, hf⟩ : ∃ f, f = (fr b).length := ⟨_, rfl⟩
        rw [← hf]
        have hf8 : f = nb + 8 := by rw [hf, HLEN.out]
        have hf5 : f ≤ 5008 := by omega
        have HF := Lib.hid hf
        have HF8 := Lib.hid hf8
        have HBF := Lib.hid hbf
        have HFF := Lib.hid hff
        have D1 := HC.out.dk.keep hff (by simp)
        have J1 := HC.out.jn.keep hff (by simp)
        have R1 := hff.own HC.out.row (by simp)
        have A1 := HC.out.away
        have L1 := HC.out.all.keep (F' := blk a ++ F) hff (by simp) (fun x h => .inl h)
        have G1 := HC.out.frm.trans hff (U := []) (by simp) (by simp)
        have B1 := hff.bytes HBI.out (by simp)
        have W1 := HC.out.dk.1.1
        clear hf hf8 hbf hff
        by_cases h4 : 4096 < nb
        · have D2 := Lib.hid D1
          have J2 := Lib.hid J1
          have R2 := Lib.hid R1
          have A2 := Lib.hid A1
          have L2 := Lib.hid L1
          have G2 := Lib.hid G1
          have B2 := Lib.hid B1
          have W8 := Lib.hid W1
          have HTL : Hid (W.length = t) := Lib.hid HT.out.symm
          have hjc : jc W b room = 3 := by unfold jc; rw [if_pos (by have := HNB.out; omega)]
          have JC := Lib.hid hjc
          have JL : Hid (jl W b room = W) := Lib.hid (by unfold jl; rw [hjc]; rfl)
          have JS : Hid (js W b s room = s) := Lib.hid (by unfold js; rw [hjc]; rfl)
          clear hjc D1 J1 R1 A1 L1 G1 B1 W1
          have LAYC := Lib.hid (jlay_any ai nb ci b D2.out J2.out B2.out HNB.out HNI.out)
          have WRC := Lib.hid (jwrite_any ai nb ci b D2.out J2.out B2.out HNB.out HNI.out)
          unfold JEnd at LAYC WRC
          rw [JC.out, JL.out] at LAYC
          rw [JC.out, JL.out, JS.out] at WRC
          have H8 : Hid (∀ c ∈ W, c < 256) := Lib.hid W8.out
          go_wp2_with fail
          first
            | (go_at_call 19; refine LAYC.out.mono ?_; rintro e w3 ⟨rfl, hd3⟩; obtain ⟨s3, hs3⟩ : ∃ s3, s3 = s := ⟨_, rfl⟩; rw [← hs3] at hd3; have hs3t : s3 ≤ t := by omega)
            | (go_at_call 17; refine WRC.out.mono ?_; rintro e w3 ⟨rfl, hd3⟩; obtain ⟨s3, hs3⟩ : ∃ s3, s3 = s := ⟨_, rfl⟩; rw [← hs3] at hd3; have hs3t : s3 ≤ t := by omega)
          obtain ⟨F3, N⟩ := WrIn.next hsz D2.out J2.out R2.out A2.out L2.out G2.out hd3
          rw [hs3] at N
          clear hs3
          have HN := Lib.hid N
          have BY := Lib.hid (fun (z : World) (hz : Frm [] w3 z) => dbytes_any (HN.out.dk.keep hz (by simp)))
          have SU := Lib.hid (fun (z : World) (hz : Frm [] w3 z) => sure_any (HN.out.dk.keep hz (by simp)))
          have hbw : Bytes w3 a W := (bytes_of_own HN.out.row H8.out).2.1
          have cv : ∀ z, Frm [] w3 z → (convert 22 9 (.slice a t c)).run Try.prog z = .ok (.string (strOf W)) z := fun z hz =>
            run_to_string Try.underlying22 Try.underlying5 Try.underlying9 (hz.bytes hbw (by simp)) HTL.out.symm
          clear hbw N hd3 LAYC WRC D2 J2 R2 A2 L2 G2 B2 JC JL JS
          go_wp2_with fail
          refine wp_region_held_drew (S := fun w' => Frm [] w3 w') (by kernel_rfl) (Frm.drew (Frm.refl _ _)) (fun hHeld => ?_)
          refine wpAnyH_take (i := 0) (oi := ⟨some 104, _, _, _, _, _⟩) (v := ?_) rfl (by kernel_rfl) (by kernel_rfl) (by kernel_rfl) (fun _ _ _ h => h) (Or.inl ⟨by rfl, ?_⟩) (by assumption) ?_
          rotate_left 1
          · (intro w hSw; (try dsimp only at hSw); go_simp; all_goals with_reducible rfl)
          try simp only [Act.put, List.setIfInBounds_toArray, List.set_cons_zero, List.set_cons_succ]
          refine wpAnyH_take (i := 3) (oi := ⟨some 107, _, _, _, _, _⟩) (v := ?_) rfl (by kernel_rfl) (by kernel_rfl) (by kernel_rfl) (fun _ _ _ h => h) (Or.inl ⟨by rfl, ?_⟩) (by assumption) ?_
          rotate_left 1
          · (intro w hSw; (try dsimp only at hSw); go_simp; all_goals with_reducible rfl)
          try simp only [Act.put, List.setIfInBounds_toArray, List.set_cons_zero, List.set_cons_succ]
          refine wpAnyH_take (i := 4) (oi := ⟨some 108, _, _, _, _, _⟩) (v := ?_) rfl (by kernel_rfl) (by kernel_rfl) (by kernel_rfl) (fun _ _ _ h => h) (Or.inl ⟨by rfl, ?_⟩) (by assumption) ?_
          rotate_left 1
          · (intro w hSw; (try dsimp only at hSw); go_simp; all_goals with_reducible rfl)
          try simp only [Act.put, List.setIfInBounds_toArray, List.set_cons_zero, List.set_cons_succ]
          refine wpAnyH_ready (rs := [1]) (by kernel_rfl) (by simp) ?_
          refine AllReadyH.cons (o := ⟨some 105, _, _, _, _, _⟩) rfl (fun K hK => ?_) AllReadyH.nil
          go_simp
          (go_at_call 15; (with_reducible refine (BY.out _ (by assumption)).mono ?_); rintro e wd ⟨ab, cb, rfl, hod, hfd⟩; rw [HTL.out] at hod ⊢; have f2 : Frm [] w3 wd := Frm.trans (by assumption) hfd (by simp) (by simp); have cv2 := run_to_string (P := Try.prog) (src := 22) (dst := 9) (e := 5) Try.underlying22 Try.underlying5 Try.underlying9 (n := t) (c := cb) (bytes_of_own hod H8.out).2.1 HTL.out.symm)
          go_wp2_with fail
          refine hK.out _ _ (by assumption) (fun hHeld => ?_)
          clear hK K
          try simp only [Act.put, List.setIfInBounds_toArray, List.set_cons_zero, List.set_cons_succ]
          refine wpAnyH_ready (rs := [2]) (by kernel_rfl) (by simp) ?_
          refine AllReadyH.cons (o := ⟨some 106, _, _, _, _, _⟩) rfl (fun K hK => ?_) AllReadyH.nil
          go_simp
          refine hK.out _ _ (by assumption) (fun hHeld => ?_)
          clear hK K
          try simp only [Act.put, List.setIfInBounds_toArray, List.set_cons_zero, List.set_cons_succ]
          refine wpAnyH_take (i := 5) (oi := ⟨some 109, _, _, _, _, _⟩) (v := ?_) rfl (by kernel_rfl) (by kernel_rfl) (by kernel_rfl) (fun _ _ _ h => h) (Or.inl ⟨by rfl, ?_⟩) (by assumption) ?_
          rotate_left 1
          · (intro w hSw; (try dsimp only at hSw); go_simp; all_goals with_reducible rfl)
          try simp only [Act.put, List.setIfInBounds_toArray, List.set_cons_zero, List.set_cons_succ]
          refine wpAnyH_take (i := 6) (oi := ⟨some 110, _, _, _, _, _⟩) (v := ?_) rfl (by kernel_rfl) (by kernel_rfl) (by kernel_rfl) (fun _ _ _ h => h) (Or.inl ⟨by rfl, ?_⟩) (by assumption) ?_
          rotate_left 1
          · (intro w hSw; (try dsimp only at hSw); go_simp; all_goals with_reducible rfl)
          try simp only [Act.put, List.setIfInBounds_toArray, List.set_cons_zero, List.set_cons_succ]
          refine wpAnyH_take (i := 7) (oi := ⟨some 111, _, _, _, _, _⟩) (v := ?_) rfl (by kernel_rfl) (by kernel_rfl) (by kernel_rfl) (fun _ _ _ h => h) (Or.inl ⟨by rfl, ?_⟩) (by assumption) ?_
          rotate_left 1
          · (intro w hSw; (try dsimp only at hSw); go_simp; all_goals with_reducible rfl)
          try simp only [Act.put, List.setIfInBounds_toArray, List.set_cons_zero, List.set_cons_succ]
          refine wpAnyH_take (i := 9) (oi := ⟨some 113, _, _, _, _, _⟩) (v := ?_) rfl (by kernel_rfl) (by kernel_rfl) (by kernel_rfl) (fun _ _ _ h => h) (Or.inl ⟨by rfl, ?_⟩) (by assumption) ?_
          rotate_left 1
          · (intro w hSw; (try dsimp only at hSw); go_simp; all_goals with_reducible rfl)
          try simp only [Act.put, List.setIfInBounds_toArray, List.set_cons_zero, List.set_cons_succ]
          refine wpAnyH_ready (rs := [8]) (by kernel_rfl) (by simp) ?_
          refine AllReadyH.cons (o := ⟨some 112, _, _, _, _, _⟩) rfl (fun K hK => ?_) AllReadyH.nil
          go_simp
          (go_at_call 16; (with_reducible refine (SU.out _ (by assumption)).mono ?_); rintro e wz ⟨rfl, rfl⟩)
          go_wp2_with fail
          refine hK.out _ _ (by assumption) (fun hHeld => ?_)
          clear hK K
          try simp only [Act.put, List.setIfInBounds_toArray, List.set_cons_zero, List.set_cons_succ]
          refine wpAnyH_take (i := 10) (oi := ⟨some 114, _, _, _, _, _⟩) (v := ?_) rfl (by kernel_rfl) (by kernel_rfl) (by kernel_rfl) (fun _ _ _ h => h) (Or.inl ⟨by rfl, ?_⟩) (by assumption) ?_
          rotate_left 1
          · (intro w hSw; (try dsimp only at hSw); go_simp; all_goals with_reducible rfl)
          try simp only [Act.put, List.setIfInBounds_toArray, List.set_cons_zero, List.set_cons_succ]
          refine wpAnyH_take (i := 11) (oi := ⟨some 115, _, _, _, _, _⟩) (v := ?_) rfl (by kernel_rfl) (by kernel_rfl) (by kernel_rfl) (fun _ _ _ h => h) (Or.inl ⟨by rfl, ?_⟩) (by assumption) ?_
          rotate_left 1
          · (intro w hSw; (try dsimp only at hSw); go_simp; all_goals with_reducible rfl)
          try simp only [Act.put, List.setIfInBounds_toArray, List.set_cons_zero, List.set_cons_succ]
          refine wpAnyH_done (by kernel_rfl) ?_ _
          clear cv cv2 hHeld hod hfd
          have HFIN := Lib.hid (HN.out.keep f2)
          clear f2
          go_wp2
          go_round
          case rel => exact ⟨k + 1, _, F3, W, a, c, HKL.out, by omega, by rw [HTL.out]; omega, by rw [HTL.out]; omega, by rw [HTL.out], rfl, by go_num, HFIN.out⟩
          case measure => simp [intOf]; omega
        by_cases hfull : room < t + f
        · have D2 := Lib.hid D1
          have J2 := Lib.hid J1
          have R2 := Lib.hid R1
          have A2 := Lib.hid A1
          have L2 := Lib.hid L1
          have G2 := Lib.hid G1
          have B2 := Lib.hid B1
          have W8 := Lib.hid W1
          have HTL : Hid (W.length = t) := Lib.hid HT.out.symm
          have hjc : jc W b room = 8 := by unfold jc; rw [if_neg (by have := HNB.out; omega), if_pos (by have := HNB.out; have := HT.out; have := HF8.out; omega)]
          have JC := Lib.hid hjc
          have JL : Hid (jl W b room = W) := Lib.hid (by unfold jl; rw [hjc]; rfl)
          have JS : Hid (js W b s room = s) := Lib.hid (by unfold js; rw [hjc]; rfl)
          clear hjc D1 J1 R1 A1 L1 G1 B1 W1
          have LAYC := Lib.hid (jlay_any ai nb ci b D2.out J2.out B2.out HNB.out HNI.out)
          have WRC := Lib.hid (jwrite_any ai nb ci b D2.out J2.out B2.out HNB.out HNI.out)
          unfold JEnd at LAYC WRC
          rw [JC.out, JL.out] at LAYC
          rw [JC.out, JL.out, JS.out] at WRC
          have H8 : Hid (∀ c ∈ W, c < 256) := Lib.hid W8.out
          go_wp2_with fail
          first
            | (go_at_call 19; refine LAYC.out.mono ?_; rintro e w3 ⟨rfl, hd3⟩; obtain ⟨s3, hs3⟩ : ∃ s3, s3 = s := ⟨_, rfl⟩; rw [← hs3] at hd3; have hs3t : s3 ≤ t := by omega)
            | (go_at_call 17; refine WRC.out.mono ?_; rintro e w3 ⟨rfl, hd3⟩; obtain ⟨s3, hs3⟩ : ∃ s3, s3 = s := ⟨_, rfl⟩; rw [← hs3] at hd3; have hs3t : s3 ≤ t := by omega)
          obtain ⟨F3, N⟩ := WrIn.next hsz D2.out J2.out R2.out A2.out L2.out G2.out hd3
          rw [hs3] at N
          clear hs3
          have HN := Lib.hid N
          have BY := Lib.hid (fun (z : World) (hz : Frm [] w3 z) => dbytes_any (HN.out.dk.keep hz (by simp)))
          have SU := Lib.hid (fun (z : World) (hz : Frm [] w3 z) => sure_any (HN.out.dk.keep hz (by simp)))
          have hbw : Bytes w3 a W := (bytes_of_own HN.out.row H8.out).2.1
          have cv : ∀ z, Frm [] w3 z → (convert 22 9 (.slice a t c)).run Try.prog z = .ok (.string (strOf W)) z := fun z hz =>
            run_to_string Try.underlying22 Try.underlying5 Try.underlying9 (hz.bytes hbw (by simp)) HTL.out.symm
          clear hbw N hd3 LAYC WRC D2 J2 R2 A2 L2 G2 B2 JC JL JS
          go_wp2_with fail
          refine wp_region_held_drew (S := fun w' => Frm [] w3 w') (by kernel_rfl) (Frm.drew (Frm.refl _ _)) (fun hHeld => ?_)
          refine wpAnyH_take (i := 0) (oi := ⟨some 104, _, _, _, _, _⟩) (v := ?_) rfl (by kernel_rfl) (by kernel_rfl) (by kernel_rfl) (fun _ _ _ h => h) (Or.inl ⟨by rfl, ?_⟩) (by assumption) ?_
          rotate_left 1
          · (intro w hSw; (try dsimp only at hSw); go_simp; all_goals with_reducible rfl)
          try simp only [Act.put, List.setIfInBounds_toArray, List.set_cons_zero, List.set_cons_succ]
          refine wpAnyH_take (i := 3) (oi := ⟨some 107, _, _, _, _, _⟩) (v := ?_) rfl (by kernel_rfl) (by kernel_rfl) (by kernel_rfl) (fun _ _ _ h => h) (Or.inl ⟨by rfl, ?_⟩) (by assumption) ?_
          rotate_left 1
          · (intro w hSw; (try dsimp only at hSw); go_simp; all_goals with_reducible rfl)
          try simp only [Act.put, List.setIfInBounds_toArray, List.set_cons_zero, List.set_cons_succ]
          refine wpAnyH_take (i := 4) (oi := ⟨some 108, _, _, _, _, _⟩) (v := ?_) rfl (by kernel_rfl) (by kernel_rfl) (by kernel_rfl) (fun _ _ _ h => h) (Or.inl ⟨by rfl, ?_⟩) (by assumption) ?_
          rotate_left 1
          · (intro w hSw; (try dsimp only at hSw); go_simp; all_goals with_reducible rfl)
          try simp only [Act.put, List.setIfInBounds_toArray, List.set_cons_zero, List.set_cons_succ]
          refine wpAnyH_ready (rs := [1]) (by kernel_rfl) (by simp) ?_
          refine AllReadyH.cons (o := ⟨some 105, _, _, _, _, _⟩) rfl (fun K hK => ?_) AllReadyH.nil
          go_simp
          (go_at_call 15; (with_reducible refine (BY.out _ (by assumption)).mono ?_); rintro e wd ⟨ab, cb, rfl, hod, hfd⟩; rw [HTL.out] at hod ⊢; have f2 : Frm [] w3 wd := Frm.trans (by assumption) hfd (by simp) (by simp); have cv2 := run_to_string (P := Try.prog) (src := 22) (dst := 9) (e := 5) Try.underlying22 Try.underlying5 Try.underlying9 (n := t) (c := cb) (bytes_of_own hod H8.out).2.1 HTL.out.symm)
          go_wp2_with fail
          refine hK.out _ _ (by assumption) (fun hHeld => ?_)
          clear hK K
          try simp only [Act.put, List.setIfInBounds_toArray, List.set_cons_zero, List.set_cons_succ]
          refine wpAnyH_ready (rs := [2]) (by kernel_rfl) (by simp) ?_
          refine AllReadyH.cons (o := ⟨some 106, _, _, _, _, _⟩) rfl (fun K hK => ?_) AllReadyH.nil
          go_simp
          refine hK.out _ _ (by assumption) (fun hHeld => ?_)
          clear hK K
          try simp only [Act.put, List.setIfInBounds_toArray, List.set_cons_zero, List.set_cons_succ]
          refine wpAnyH_take (i := 5) (oi := ⟨some 109, _, _, _, _, _⟩) (v := ?_) rfl (by kernel_rfl) (by kernel_rfl) (by kernel_rfl) (fun _ _ _ h => h) (Or.inl ⟨by rfl, ?_⟩) (by assumption) ?_
          rotate_left 1
          · (intro w hSw; (try dsimp only at hSw); go_simp; all_goals with_reducible rfl)
          try simp only [Act.put, List.setIfInBounds_toArray, List.set_cons_zero, List.set_cons_succ]
          refine wpAnyH_take (i := 6) (oi := ⟨some 110, _, _, _, _, _⟩) (v := ?_) rfl (by kernel_rfl) (by kernel_rfl) (by kernel_rfl) (fun _ _ _ h => h) (Or.inl ⟨by rfl, ?_⟩) (by assumption) ?_
          rotate_left 1
          · (intro w hSw; (try dsimp only at hSw); go_simp; all_goals with_reducible rfl)
          try simp only [Act.put, List.setIfInBounds_toArray, List.set_cons_zero, List.set_cons_succ]
          refine wpAnyH_take (i := 7) (oi := ⟨some 111, _, _, _, _, _⟩) (v := ?_) rfl (by kernel_rfl) (by kernel_rfl) (by kernel_rfl) (fun _ _ _ h => h) (Or.inl ⟨by rfl, ?_⟩) (by assumption) ?_
          rotate_left 1
          · (intro w hSw; (try dsimp only at hSw); go_simp; all_goals with_reducible rfl)
          try simp only [Act.put, List.setIfInBounds_toArray, List.set_cons_zero, List.set_cons_succ]
          refine wpAnyH_take (i := 9) (oi := ⟨some 113, _, _, _, _, _⟩) (v := ?_) rfl (by kernel_rfl) (by kernel_rfl) (by kernel_rfl) (fun _ _ _ h => h) (Or.inl ⟨by rfl, ?_⟩) (by assumption) ?_
          rotate_left 1
          · (intro w hSw; (try dsimp only at hSw); go_simp; all_goals with_reducible rfl)
          try simp only [Act.put, List.setIfInBounds_toArray, List.set_cons_zero, List.set_cons_succ]
          refine wpAnyH_ready (rs := [8]) (by kernel_rfl) (by simp) ?_
          refine AllReadyH.cons (o := ⟨some 112, _, _, _, _, _⟩) rfl (fun K hK => ?_) AllReadyH.nil
          go_simp
          (go_at_call 16; (with_reducible refine (SU.out _ (by assumption)).mono ?_); rintro e wz ⟨rfl, rfl⟩)
          go_wp2_with fail
          refine hK.out _ _ (by assumption) (fun hHeld => ?_)
          clear hK K
          try simp only [Act.put, List.setIfInBounds_toArray, List.set_cons_zero, List.set_cons_succ]
          refine wpAnyH_take (i := 10) (oi := ⟨some 114, _, _, _, _, _⟩) (v := ?_) rfl (by kernel_rfl) (by kernel_rfl) (by kernel_rfl) (fun _ _ _ h => h) (Or.inl ⟨by rfl, ?_⟩) (by assumption) ?_
          rotate_left 1
          · (intro w hSw; (try dsimp only at hSw); go_simp; all_goals with_reducible rfl)
          try simp only [Act.put, List.setIfInBounds_toArray, List.set_cons_zero, List.set_cons_succ]
          refine wpAnyH_take (i := 11) (oi := ⟨some 115, _, _, _, _, _⟩) (v := ?_) rfl (by kernel_rfl) (by kernel_rfl) (by kernel_rfl) (fun _ _ _ h => h) (Or.inl ⟨by rfl, ?_⟩) (by assumption) ?_
          rotate_left 1
          · (intro w hSw; (try dsimp only at hSw); go_simp; all_goals with_reducible rfl)
          try simp only [Act.put, List.setIfInBounds_toArray, List.set_cons_zero, List.set_cons_succ]
          refine wpAnyH_done (by kernel_rfl) ?_ _
          clear cv cv2 hHeld hod hfd
          have HFIN := Lib.hid (HN.out.keep f2)
          clear f2
          go_wp2
          go_round
          case rel => exact ⟨k + 1, _, F3, W, a, c, HKL.out, by omega, by rw [HTL.out]; omega, by rw [HTL.out]; omega, by rw [HTL.out], rfl, by go_num, HFIN.out⟩
          case measure => simp [intOf]; omega
        have hafn : af = none → cf = 0 := fun h => by
          exfalso
          rcases HBF.out.2.2 with h0 | ⟨_, _, h0, _⟩
          · have h1 := congrArg List.length h0
            rw [HLEN.out] at h1
            simp at h1
          · rw [h] at h0; cases h0
        have hRt := R1
        rw [← HT.out] at hRt
        have HRT := Lib.hid hRt
        have HAFN := Lib.hid hafn
        have hfit : t + f ≤ 140737488355328 := by omega
        have P1 := Lib.hid (And.intro D1 (And.intro J1 (And.intro R1 (And.intro A1 (And.intro L1 (And.intro G1 (And.intro B1 W1)))))))
        have GS := Lib.hid G1.size
        clear hRt hafn D1 J1 R1 A1 L1 G1 B1 W1
        go_wp2_with (at_builtin; refine wpList_app rfl (.tmp 61) (.tmp 62) 22 rfl w.heap.size 5 i0 Try.underlying22 HI.out HZ0.out HZ1.out HZ2.out (.slice a t c) t _ rfl HRT.out _ _ _ (fr b) rfl HBF.out HF.out HAFN.out hfit GS.out ?_)
        intro a2 c2 w2 happ
        obtain ⟨D1, J1, R1, A1, L1, G1, B1, W1⟩ := P1.out
        obtain ⟨t2, ht2⟩ : ∃ t2, t2 = t + f := ⟨_, rfl⟩
        have hown := happ.own
        rw [← ht2] at hown ⊢
        have hf2 : Frm (blk a) w1 w2 := (Frm.refl _ _).grown happ.grown (fun g hg => .inl (own_blk.1 hg))
        have hp2 : ∀ g ∈ blk a2, g ∈ blk a ∨ w1.heap.size ≤ g := fun g hg => by
          rcases happ.place with h1 | h1
          · exact .inl (own_blk.1 (h1 ▸ own_blk.2 hg))
          · have := (own_blk (n := t + f) (c := c2)).2 hg
            rw [h1] at this
            cases this
            exact .inr (Nat.le_refl _)
        have hlen2 : (W ++ fr b).length = t2 := by rw [List.length_append, ← HT.out, ← HF.out, ht2]
        have hown2 : w2.ownsRow w.heap.size 5 1 (.slice a2 (W ++ fr b).length c2) (W ++ fr b).length ((W ++ fr b).map u8v) := by
          rw [hlen2, List.map_append]; exact hown
        have D2 := Lib.hid (D1.keep hf2 (fun x hx hm => A1 x hm hx))
        have J2 : Hid (Jn w2 q p) := Lib.hid (J1.keep hf2 (fun hm => own_ne R1 J1 (by decide) (own_blk.2 hm)))
        have R2 := Lib.hid hown2
        have A2 : Hid (∀ g ∈ blk a2, g ∉ F) := Lib.hid fun g hg hm => by
          rcases hp2 g hg with h1 | h1
          · exact A1 g h1 hm
          · have := (D1.lt g hm).2; omega
        have L2 : Hid (LL w2 (blk a2 ++ F) (some ⟨bb, oo, none⟩) L) := Lib.hid (L1.keep hf2 (fun x h => .inl (by simp [h])) (fun x h => by
          rcases List.mem_append.1 h with h1 | h1
          · rcases hp2 x h1 with h2 | h2
            · exact .inl (by simp [h2])
            · exact .inr h2
          · exact .inl (by simp [h1])))
        have G2 := Lib.hid (G1.trans hf2 (U := []) (by simp) (fun x hx => .inr (row_lt R1 x hx).1))
        have B2 := Lib.hid (hf2.bytes' B1 (fun hne x hx hm => HAP.out hne x hx (by simp [hm])))
        have W8 : Hid (∀ c ∈ W ++ fr b, c < 256) := Lib.hid fun c hc => by
          rcases List.mem_append.1 hc with h1 | h1
          · exact W1 c h1
          · exact W8f.out c h1
        have HTL := Lib.hid hlen2
        have hjc : jc W b room = 0 := by unfold jc; rw [if_neg (by have := HNB.out; omega), if_neg (by have := HNB.out; have := HT.out; have := HF8.out; omega)]
        have JC := Lib.hid hjc
        have JL : Hid (jl W b room = W ++ fr b) := Lib.hid (by unfold jl; rw [hjc]; rfl)
        have JS : Hid (js W b s room = t2) := Lib.hid (by unfold js; rw [hjc, if_pos rfl, hlen2])
        have ht2r : t2 ≤ room := by omega
        have hst2 : s ≤ t2 := by omega
        clear hjc D1 J1 R1 A1 L1 G1 B1 W1 happ hown hf2 hp2 hlen2 hown2 P1 HRT HAFN ht2
        have LAYC := Lib.hid (jlay_any ai nb ci b D2.out J2.out B2.out HNB.out HNI.out)
        have WRC := Lib.hid (jwrite_any ai nb ci b D2.out J2.out B2.out HNB.out HNI.out)
        unfold JEnd at LAYC WRC
        rw [JC.out, JL.out] at LAYC
        rw [JC.out, JL.out, JS.out] at WRC
        have H8 : Hid (∀ c ∈ (W ++ fr b), c < 256) := Lib.hid W8.out
        go_wp2_with fail
        first
          | (go_at_call 19; refine LAYC.out.mono ?_; rintro e w3 ⟨rfl, hd3⟩; obtain ⟨s3, hs3⟩ : ∃ s3, s3 = s := ⟨_, rfl⟩; rw [← hs3] at hd3; have hs3t : s3 ≤ t2 := by omega)
          | (go_at_call 17; refine WRC.out.mono ?_; rintro e w3 ⟨rfl, hd3⟩; obtain ⟨s3, hs3⟩ : ∃ s3, s3 = t2 := ⟨_, rfl⟩; rw [← hs3] at hd3; have hs3t : s3 ≤ t2 := by omega)
        obtain ⟨F3, N⟩ := WrIn.next hsz D2.out J2.out R2.out A2.out L2.out G2.out hd3
        rw [hs3] at N
        clear hs3
        have HN := Lib.hid N
        have BY := Lib.hid (fun (z : World) (hz : Frm [] w3 z) => dbytes_any (HN.out.dk.keep hz (by simp)))
        have SU := Lib.hid (fun (z : World) (hz : Frm [] w3 z) => sure_any (HN.out.dk.keep hz (by simp)))
        have hbw : Bytes w3 a2 (W ++ fr b) := (bytes_of_own HN.out.row H8.out).2.1
        have cv : ∀ z, Frm [] w3 z → (convert 22 9 (.slice a2 t2 c2)).run Try.prog z = .ok (.string (strOf (W ++ fr b))) z := fun z hz =>
          run_to_string Try.underlying22 Try.underlying5 Try.underlying9 (hz.bytes hbw (by simp)) HTL.out.symm
        clear hbw N hd3 LAYC WRC D2 J2 R2 A2 L2 G2 B2 JC JL JS
        go_wp2_with fail
        refine wp_region_held_drew (S := fun w' => Frm [] w3 w') (by kernel_rfl) (Frm.drew (Frm.refl _ _)) (fun hHeld => ?_)
        refine wpAnyH_take (i := 0) (oi := ⟨some 104, _, _, _, _, _⟩) (v := ?_) rfl (by kernel_rfl) (by kernel_rfl) (by kernel_rfl) (fun _ _ _ h => h) (Or.inl ⟨by rfl, ?_⟩) (by assumption) ?_
        rotate_left 1
        · (intro w hSw; (try dsimp only at hSw); go_simp; all_goals with_reducible rfl)
        try simp only [Act.put, List.setIfInBounds_toArray, List.set_cons_zero, List.set_cons_succ]
        refine wpAnyH_take (i := 3) (oi := ⟨some 107, _, _, _, _, _⟩) (v := ?_) rfl (by kernel_rfl) (by kernel_rfl) (by kernel_rfl) (fun _ _ _ h => h) (Or.inl ⟨by rfl, ?_⟩) (by assumption) ?_
        rotate_left 1
        · (intro w hSw; (try dsimp only at hSw); go_simp; all_goals with_reducible rfl)
        try simp only [Act.put, List.setIfInBounds_toArray, List.set_cons_zero, List.set_cons_succ]
        refine wpAnyH_take (i := 4) (oi := ⟨some 108, _, _, _, _, _⟩) (v := ?_) rfl (by kernel_rfl) (by kernel_rfl) (by kernel_rfl) (fun _ _ _ h => h) (Or.inl ⟨by rfl, ?_⟩) (by assumption) ?_
        rotate_left 1
        · (intro w hSw; (try dsimp only at hSw); go_simp; all_goals with_reducible rfl)
        try simp only [Act.put, List.setIfInBounds_toArray, List.set_cons_zero, List.set_cons_succ]
        refine wpAnyH_ready (rs := [1]) (by kernel_rfl) (by simp) ?_
        refine AllReadyH.cons (o := ⟨some 105, _, _, _, _, _⟩) rfl (fun K hK => ?_) AllReadyH.nil
        go_simp
        (go_at_call 15; (with_reducible refine (BY.out _ (by assumption)).mono ?_); rintro e wd ⟨ab, cb, rfl, hod, hfd⟩; rw [HTL.out] at hod ⊢; have f2 : Frm [] w3 wd := Frm.trans (by assumption) hfd (by simp) (by simp); have cv2 := run_to_string (P := Try.prog) (src := 22) (dst := 9) (e := 5) Try.underlying22 Try.underlying5 Try.underlying9 (n := t2) (c := cb) (bytes_of_own hod H8.out).2.1 HTL.out.symm)
        go_wp2_with fail
        refine hK.out _ _ (by assumption) (fun hHeld => ?_)
        clear hK K
        try simp only [Act.put, List.setIfInBounds_toArray, List.set_cons_zero, List.set_cons_succ]
        refine wpAnyH_ready (rs := [2]) (by kernel_rfl) (by simp) ?_
        refine AllReadyH.cons (o := ⟨some 106, _, _, _, _, _⟩) rfl (fun K hK => ?_) AllReadyH.nil
        go_simp
        refine hK.out _ _ (by assumption) (fun hHeld => ?_)
        clear hK K
        try simp only [Act.put, List.setIfInBounds_toArray, List.set_cons_zero, List.set_cons_succ]
        refine wpAnyH_take (i := 5) (oi := ⟨some 109, _, _, _, _, _⟩) (v := ?_) rfl (by kernel_rfl) (by kernel_rfl) (by kernel_rfl) (fun _ _ _ h => h) (Or.inl ⟨by rfl, ?_⟩) (by assumption) ?_
        rotate_left 1
        · (intro w hSw; (try dsimp only at hSw); go_simp; all_goals with_reducible rfl)
        try simp only [Act.put, List.setIfInBounds_toArray, List.set_cons_zero, List.set_cons_succ]
        refine wpAnyH_take (i := 6) (oi := ⟨some 110, _, _, _, _, _⟩) (v := ?_) rfl (by kernel_rfl) (by kernel_rfl) (by kernel_rfl) (fun _ _ _ h => h) (Or.inl ⟨by rfl, ?_⟩) (by assumption) ?_
        rotate_left 1
        · (intro w hSw; (try dsimp only at hSw); go_simp; all_goals with_reducible rfl)
        try simp only [Act.put, List.setIfInBounds_toArray, List.set_cons_zero, List.set_cons_succ]
        refine wpAnyH_take (i := 7) (oi := ⟨some 111, _, _, _, _, _⟩) (v := ?_) rfl (by kernel_rfl) (by kernel_rfl) (by kernel_rfl) (fun _ _ _ h => h) (Or.inl ⟨by rfl, ?_⟩) (by assumption) ?_
        rotate_left 1
        · (intro w hSw; (try dsimp only at hSw); go_simp; all_goals with_reducible rfl)
        try simp only [Act.put, List.setIfInBounds_toArray, List.set_cons_zero, List.set_cons_succ]
        refine wpAnyH_take (i := 9) (oi := ⟨some 113, _, _, _, _, _⟩) (v := ?_) rfl (by kernel_rfl) (by kernel_rfl) (by kernel_rfl) (fun _ _ _ h => h) (Or.inl ⟨by rfl, ?_⟩) (by assumption) ?_
        rotate_left 1
        · (intro w hSw; (try dsimp only at hSw); go_simp; all_goals with_reducible rfl)
        try simp only [Act.put, List.setIfInBounds_toArray, List.set_cons_zero, List.set_cons_succ]
        refine wpAnyH_ready (rs := [8]) (by kernel_rfl) (by simp) ?_
        refine AllReadyH.cons (o := ⟨some 112, _, _, _, _, _⟩) rfl (fun K hK => ?_) AllReadyH.nil
        go_simp
        (go_at_call 16; (with_reducible refine (SU.out _ (by assumption)).mono ?_); rintro e wz ⟨rfl, rfl⟩)
        go_wp2_with fail
        refine hK.out _ _ (by assumption) (fun hHeld => ?_)
        clear hK K
        try simp only [Act.put, List.setIfInBounds_toArray, List.set_cons_zero, List.set_cons_succ]
        refine wpAnyH_take (i := 10) (oi := ⟨some 114, _, _, _, _, _⟩) (v := ?_) rfl (by kernel_rfl) (by kernel_rfl) (by kernel_rfl) (fun _ _ _ h => h) (Or.inl ⟨by rfl, ?_⟩) (by assumption) ?_
        rotate_left 1
        · (intro w hSw; (try dsimp only at hSw); go_simp; all_goals with_reducible rfl)
        try simp only [Act.put, List.setIfInBounds_toArray, List.set_cons_zero, List.set_cons_succ]
        refine wpAnyH_take (i := 11) (oi := ⟨some 115, _, _, _, _, _⟩) (v := ?_) rfl (by kernel_rfl) (by kernel_rfl) (by kernel_rfl) (fun _ _ _ h => h) (Or.inl ⟨by rfl, ?_⟩) (by assumption) ?_
        rotate_left 1
        · (intro w hSw; (try dsimp only at hSw); go_simp; all_goals with_reducible rfl)
        try simp only [Act.put, List.setIfInBounds_toArray, List.set_cons_zero, List.set_cons_succ]
        refine wpAnyH_done (by kernel_rfl) ?_ _
        clear cv cv2 hHeld hod hfd
        have HFIN := Lib.hid (HN.out.keep f2)
        clear f2
        go_wp2
        go_round
        case rel => exact ⟨k + 1, _, F3, (W ++ fr b), a2, c2, HKL.out, by omega, by rw [HTL.out]; omega, by rw [HTL.out]; omega, by rw [HTL.out], rfl, by go_num, HFIN.out⟩
        case measure => simp [intOf]; omega
    · go_wp2
      go_ret
      exact ⟨rfl, HFR.out.new⟩
end Go.Proofs.Yteidfplenleogaa
