/- (For a door seat.) Contract of the program's Take. -/
import Derived.Test.YtahhkffghhgojaaDoorZDtLine
import Derived.Test.YtahhkffghhgojaaDoorZDtTakeM
import Derived.Test.YtahhkffghhgojaaDoorZDdAwake
import Derived.Deep.DeepCutAuto
namespace Go.Proofs.YtahhkffghhgojaaDoor
open Go.RowKit
set_option maxRecDepth 100000

/-- What Take answers and leaves: R is what the bytes come to. -/
def DtQ (w : World) (rb cb db : Nat) (R : (List Ln × List Nat) ⊕ Nat) (e : Ending) (w' : World) : Prop :=
  (∃ out l' g, R = .inl (out, l') ∧ e = .returned (.pointer (some ⟨g, 0, none⟩)) ∧ TkOk out ∧ DdB w.heap.size w' g out ∧ Rdr w' rb cb db l' ∧ Frm [rb] w w') ∨ (∃ c : Nat, R = .inr c ∧ Thrown w rb cb (c : Nat) e w')
theorem pLn_top {V : List Nat → Bool} {l l' : List Nat} {x : Ln} (h : pLn V l = .inl (x, l')) (h8 : ∀ c ∈ l, c < 256) : x.fits ∧ x.top = x.done ∧ l'.length ≤ l.length ∧ x.nm.size ≤ l.length := by
  unfold pLn thn at h
  rcases h0 : pT V l with ⟨s, l1⟩ | c <;> rw [h0] at h <;> simp only at h
  · rcases h1 : pN 8 l1 with ⟨d, l2⟩ | c <;> rw [h1] at h <;> simp only at h
    · rcases h2 : pN 8 l2 with ⟨a, l3⟩ | c <;> rw [h2] at h <;> simp only at h
      · rcases h3 : pN 8 l3 with ⟨f, l4⟩ | c <;> rw [h3] at h <;> simp only at h
        · simp only [Sum.inl.injEq, Prod.mk.injEq] at h
          obtain ⟨rfl, rfl⟩ := h
          have k0 := pT_len h0
          have k1 := pN_len h1
          have k2 := pN_len h2
          have k3 := pN_len h3
          have m1 : ∀ c ∈ l1, c < 256 := by
            unfold pT at h0
            split at h0
            · cases h0
            · split at h0
              · simp only [Sum.inl.injEq, Prod.mk.injEq] at h0
                rw [← h0.2]
                exact fun c hc => h8 c (List.mem_of_mem_drop hc)
              · cases h0
          have m2 : ∀ c ∈ l2, c < 256 := by
            unfold pN at h1
            split at h1
            · cases h1
            · simp only [Sum.inl.injEq, Prod.mk.injEq] at h1
              rw [← h1.2]
              exact fun c hc => m1 c (List.mem_of_mem_drop hc)
          have m3 : ∀ c ∈ l3, c < 256 := by
            unfold pN at h2
            split at h2
            · cases h2
            · simp only [Sum.inl.injEq, Prod.mk.injEq] at h2
              rw [← h2.2]
              exact fun c hc => m2 c (List.mem_of_mem_drop hc)
          have hs : s.size ≤ l.length := by
            unfold pT at h0
            split at h0
            · cases h0
            · split at h0
              · simp only [Sum.inl.injEq, Prod.mk.injEq] at h0
                rw [← h0.1, strOf_size]
                simp
                omega
              · cases h0
          exact ⟨⟨pN8_lt h1 m1, pN8_lt h1 m1, pN8_lt h2 m2, pN8_lt h3 m3⟩, rfl, by omega, hs⟩
        · cases h
      · cases h
    · cases h
  · cases h
set_option maxHeartbeats 16000000 in
theorem dtake_any {V : List Nat → Bool} (hV : VOk V) {w : World} {rb cb db : Nat} {l : List Nat} (h : Rdr w rb cb db l) (hT : Tabs w) (hB : 2 ≤ rb) (hdb : db < w.heap.size) (hfit : l.length ≤ 100000) :
    Calls Tryd.prog 19 #[.pointer (some ⟨rb, 0, none⟩)] w (DtQ w rb cb db (pTb V l)) := by
  have hlt := h.lt
  obtain ⟨b, hb⟩ : ∃ b, b = w.heap.size := ⟨_, rfl⟩
  obtain ⟨w1, hw1⟩ : ∃ w1, w1 = w.alloc (.map #[] 0) := ⟨_, rfl⟩
  have hmk : (Instr.makeMap 62 none).run Tryd.prog w = .ok (.map (some b)) w1 := by rw [hw1, hb]; kernel_rfl
  have F1 : Hid (Frm [] w w1) := Lib.hid (by rw [hw1]; exact (Frm.refl _ _).alloc _)
  have M1 : Hid (MapS Tryd.prog KS w1 b 0 []) := Lib.hid (by rw [hw1, hb]; exact MapS.new w keyKS)
  have NE : Hid (rb ≠ b ∧ cb ≠ b ∧ db ≠ b ∧ w.heap.size ≤ b ∧ 2 ≤ b) := Lib.hid ⟨by omega, by omega, by omega, by omega, by omega⟩
  have DB1 : Hid (db < w1.heap.size ∧ rb < w1.heap.size) := Lib.hid (by have := F1.out.size; omega)
  have HBB := Lib.hid hB
  have TB1 := Lib.hid (hT.keep F1.out (by simp))
  have R1 := Lib.hid (h.keep F1.out (by simp) (by simp) (by simp))
  have C1 := Lib.hid (dq_u8 R1.out DB1.out.1)
  have HV := Lib.hid hV
  have LF := Lib.hid hfit
  obtain ⟨Q, hQ⟩ : ∃ Q, Q = DtQ w rb cb db (pTb V l) := ⟨_, rfl⟩
  rw [← hQ]
  have BAD : Hid (∀ (c : Nat) (e : Ending) (w' : World), pTb V l = .inr c → Thrown w rb cb c e w' → Q e w') := Lib.hid (fun c e w' hp ht => by rw [hQ]; exact .inr ⟨c, hp, ht⟩)
  have FIN : Hid (∀ (out : List Ln) (l' : List Nat) (W : World), pTb V l = .inl (out, l') → TkOk out → MapS Tryd.prog KS W b out.length out → Rdr W rb cb db l' → Frm [rb, b] w1 W → Q (.returned (.pointer (some ⟨W.heap.size, 0, none⟩))) (W.alloc (.cells #[.map (some b)] 64))) := Lib.hid (fun out l' W hp ok hm hr hf => by
    rw [hQ]
    have hfw : Frm [rb] w W := F1.out.trans hf (by simp) (fun y hy => by
      simp at hy
      rcases hy with rfl | rfl
      · exact .inl (by simp)
      · exact .inr (by omega))
    have al : Frm [] W (W.alloc (.cells #[.map (some b)] 64)) := (Frm.refl _ _).alloc _
    refine .inl ⟨out, l', W.heap.size, hp, rfl, ok, ⟨ok.tb, hfw.size, some b, out, ⟨Whole.made _ _ _, .inr ⟨b, rfl, hm.keep al (by simp)⟩, ok.tb.fits⟩, List.Perm.refl _, fun b' hb' => by cases hb'; exact Nat.le_of_eq hb.symm⟩, hr.keep al (by simp) (by simp) (by simp), hfw.trans al (fun x hx => hx) (by simp)⟩)
  have H8 : Hid (∀ c ∈ l, c < 256) := Lib.hid h.h8
  clear hlt hb hw1 h hT hB hdb hfit hQ hV
  go_enter Tryd.func19, Tryd.ntmps19
  go_wp2_with fail
  (with_reducible refine C1.out.mono ?_)
  rintro e w2 (⟨n, l1, hp1, rfl, hr2, hf2⟩ | ⟨c, hp1, ht⟩)
  rotate_left
  · have hb := BAD.out c e w2 (by unfold pTb; exact thn_inr hp1) (ht.early0 F1.out)
    obtain ⟨rfl, _⟩ := ht
    exact ⟨rfl, hb⟩
  have P1 : Hid (pTb V l = pLns V n [] l1) := Lib.hid (by unfold pTb; exact thn_inl hp1)
  have n256 : n < 256 := by
    have h1 := (pN_left hp1).2
    rw [h1]
    have h2 := val_lt (l.take 1) (fun c hc => H8.out c (List.mem_of_mem_take hc))
    have h3 : (l.take 1).length ≤ 1 := List.length_take_le _ _
    have h4 : 256 ^ (l.take 1).length ≤ 256 ^ 1 := Nat.pow_le_pow_right (by decide) h3
    omega
  have L1 : Hid (l1.length ≤ l.length ∧ ∀ c ∈ l1, c < 256) := Lib.hid ⟨pN_len hp1, fun c hc => by
    unfold pN at hp1
    split at hp1
    · cases hp1
    · simp only [Sum.inl.injEq, Prod.mk.injEq] at hp1
      rw [← hp1.2] at hc
      exact H8.out c (List.mem_of_mem_drop hc)⟩
  have R2 := Lib.hid hr2
  have F2 := Lib.hid hf2
  clear hp1 hr2 hf2 C1 hmk
  go_wp2
  go_loopw [4, 9] (fun u4 u9 wr => ∃ (k : Nat) (out : List Ln) (lk : List Nat), k ≤ n ∧ u9 = .int .u8 (k : Nat) ∧ u4 = .string (lastN out) ∧ Hid (Rdr wr rb cb db lk ∧ Frm [rb, b] w1 wr ∧ MapS Tryd.prog KS wr b out.length out ∧ TkOk out ∧ pLns V n [] l1 = pLns V (n - k) out lk ∧ lk.length ≤ l.length ∧ out.length = k)) (fun _ u9 _ => n - (intOf u9).toNat)
  case atStart => exact ⟨0, [], l1, Nat.zero_le _, rfl, rfl, Lib.hid ⟨R2.out, F2.out.weak (by simp), M1.out.keep F2.out (by simp; exact fun e => NE.out.1 e.symm), TkOk.nil, rfl, L1.out.1, rfl⟩⟩
  case round =>
    obtain ⟨k, out, lk, hk, rfl, rfl, HI⟩ := hrel
    by_cases hlt : k < n
    · have hr := HI.out.1
      have hf := HI.out.2.1
      have hTw : Tabs wr := TB1.out.keep hf (fun x hx => by
        simp at hx
        have := NE.out
        have := HBB.out
        rcases hx with rfl | rfl <;> omega)
      have hds : db < wr.heap.size := Nat.lt_of_lt_of_le DB1.out.1 hf.size
      have FW : Hid (Frm [rb] w wr) := Lib.hid (F1.out.trans hf (by simp) (fun y hy => by
        simp at hy
        rcases hy with rfl | rfl
        · exact .inl (by simp)
        · exact .inr NE.out.2.2.2.1))
      have C2 := Lib.hid (dline_any HV.out hr hTw HBB.out hds (by have := HI.out.2.2.2.2.2.1; have := LF.out; omega))
      have PN : Hid (pLns V (n - k) out lk = thn (pLn V lk) fun x l1 => if badL out x = true then .inr 23 else pLns V (n - (k + 1)) (out ++ [x]) l1) := Lib.hid (by
        rw [show n - k = (n - (k + 1)) + 1 by omega]; rfl)
      have HLK : Hid (∀ c ∈ lk, c < 256) := Lib.hid hr.h8
      obtain ⟨ah, hah⟩ : ∃ ah, ah = lastN out := ⟨_, rfl⟩
      have AH := Lib.hid hah
      rw [← hah]
      clear hr hf hTw hds hah
      go_wp2_with fail
      (with_reducible refine C2.out.mono ?_)
      rintro e w3 (⟨x, l2, hp2, rfl, hr3, hf3⟩ | ⟨c, hp2, ht⟩)
      rotate_left
      · have hb := BAD.out c e w3 (by rw [P1.out, HI.out.2.2.2.2.1, PN.out]; exact thn_inr hp2) (ht.early FW.out)
        obtain ⟨rfl, _⟩ := ht
        exact ⟨rfl, hb⟩
      have PT := Lib.hid (pLn_top hp2 HLK.out)
      have PX : Hid (pLns V (n - k) out lk = if badL out x = true then .inr 23 else pLns V (n - (k + 1)) (out ++ [x]) l2) := Lib.hid (by rw [PN.out]; exact thn_inl hp2)
      have BDE : Hid (badL out x = (!kl ah x.nm || decide (64 < x.nm.size) || decide (x.done = 0) || decide (out.length = 16))) := Lib.hid (by rw [AH.out]; exact badL_eq out x)
      obtain ⟨xn, xt, xd, xl, xe⟩ := x
      obtain ⟨V3, hV3⟩ : ∃ V3, V3 = w3.alloc (.cells #[.string xn, .int .u64 (xt : Nat), .int .u64 (xd : Nat), .int .u64 (xl : Nat), .int .u64 (xe : Nat)] 56) := ⟨_, rfl⟩
      obtain ⟨y, hy⟩ : ∃ y, y = w3.heap.size := ⟨_, rfl⟩
      have hf3V : Frm [rb] wr V3 := by rw [hV3]; exact hf3.alloc _
      have F3 : Hid (Frm [rb] w V3) := Lib.hid (FW.out.trans hf3V (fun x hx => hx) (fun x hx => .inl hx))
      have F13 : Hid (Frm [rb, b] w1 V3) := Lib.hid (HI.out.2.1.trans hf3V (fun x hx => hx) (fun x hx => .inl (by simp at hx; simp [hx])))
      have B3 : Hid (Whole V3 y 56 #[.string xn, .int .u64 (xt : Nat), .int .u64 (xd : Nat), .int .u64 (xl : Nat), .int .u64 (xe : Nat)]) := Lib.hid (by rw [hV3, hy]; exact Whole.made _ _ _)
      have R3 : Hid (Rdr V3 rb cb db l2) := Lib.hid (by rw [hV3]; exact hr3.keep (S := []) ((Frm.refl _ _).alloc _) (by simp) (by simp) (by simp))
      have M3 : Hid (MapS Tryd.prog KS V3 b out.length out) := Lib.hid (HI.out.2.2.1.keep hf3V (by simp; exact fun e => NE.out.1 e.symm))
      have BY : Hid (b ≠ y) := Lib.hid (by have h1 := HI.out.2.2.1.lt; have h2 := hf3.size; omega)
      have hlen : ∀ ty, (Builtin.len_ #[62] ty #[.map (some b)]).run Tryd.prog V3 = .ok (.int .i64 (k : Nat)) V3 := fun ty => by have h := M3.out.len undDd ty; rwa [HI.out.2.2.2.2.2.2] at h
      have HX : Hid (xn.size ≤ maxLen) := Lib.hid (by have h1 := PT.out.2.2.2; have h2 := HI.out.2.2.2.2.2.1; have h3 := LF.out; unfold maxLen; simp only at h1; omega)
      have x0 := B3.out.cell 0
      have x1 := B3.out.cell 1
      have x2 := B3.out.cell 2
      have x3 := B3.out.cell 3
      have x4 := B3.out.cell 4
      simp at x0 x1 x2 x3 x4
      have HV3 := Lib.hid hV3
      have HY := Lib.hid hy
      have L16 := HI.out.2.2.2.2.2.2
      simp only [Ln.val]
      rw [L16] at BDE
      have HL16 := Lib.hid L16
      clear hp2 hr3 hf3 hf3V hV3 hy C2 L16
      go_upto_region 6 with (fail)
      rw [← HV3.out, ← HY.out]
      by_cases hbad : badL out ⟨xn, xt, xd, xl, xe⟩ = true
      · have BP : Hid (pTb V l = .inr 23) := Lib.hid (by rw [P1.out, HI.out.2.2.2.2.1, PX.out, if_pos hbad])
        have FL := Lib.hid (rfail_some 23 R3.out (by decide))
        have hb2 := BDE.out
        rw [hbad] at hb2
        simp only at hb2
        have hb3 := hb2.symm
        simp only [Bool.or_eq_true, Bool.not_eq_true', decide_eq_true_eq] at hb3
        clear hbad hb2 x1 x3 x4
        cases h1 : kl xn ah with
        | true =>
          have g1 : Op.bytesLess xn.toList ah.toList = true := h1
          go_wp2_with (fail)
          refine FL.out.mono ?_
          intro e w4 ht
          have hb := BAD.out 23 e w4 BP.out (ht.early F3.out)
          obtain ⟨rfl, _⟩ := ht
          exact ⟨rfl, hb⟩
        | false =>
          have g1 : Op.bytesLess xn.toList ah.toList = false := h1
          by_cases h2 : xn = ah
          · have g2 : (xn.toList == ah.toList) = true := by rw [txt_eq, decide_eq_true h2]
            go_wp2_with (fail)
            refine FL.out.mono ?_
            intro e w4 ht
            have hb := BAD.out 23 e w4 BP.out (ht.early F3.out)
            obtain ⟨rfl, _⟩ := ht
            exact ⟨rfl, hb⟩
          · have g2 : (xn.toList == ah.toList) = false := txt_ne h2
            have h3 : kl ah xn = true := kl_or h1 h2
            by_cases h4 : 64 < xn.size
            ·
              go_wp2_with (fail)
              refine FL.out.mono ?_
              intro e w4 ht
              have hb := BAD.out 23 e w4 BP.out (ht.early F3.out)
              obtain ⟨rfl, _⟩ := ht
              exact ⟨rfl, hb⟩
            · by_cases h5 : xd = 0
              · subst h5
                go_wp2_with (fail)
                refine FL.out.mono ?_
                intro e w4 ht
                have hb := BAD.out 23 e w4 BP.out (ht.early F3.out)
                obtain ⟨rfl, _⟩ := ht
                exact ⟨rfl, hb⟩
              · have g5 : ((xd : Int) == 0) = false := by rw [beq_eq_false_iff_ne]; omega
                have h6 : k = 16 := by
                  rcases hb3 with ((h | h) | h) | h
                  · rw [h3] at h; cases h
                  · omega
                  · omega
                  · exact h
                have g6 : ((k : Int) == 16) = true := by rw [beq_iff_eq]; omega
                go_wp2_with (fail)
                refine FL.out.mono ?_
                intro e w4 ht
                have hb := BAD.out 23 e w4 BP.out (ht.early F3.out)
                obtain ⟨rfl, _⟩ := ht
                exact ⟨rfl, hb⟩
      · have hgood : badL out ⟨xn, xt, xd, xl, xe⟩ = false := by simpa using hbad
        have HG := Lib.hid hgood
        obtain ⟨p1, p2, p3, p4, p5⟩ := good_parts hgood
        have hk1 : kl ah xn = true := by rw [AH.out]; exact p1
        have g1 : Op.bytesLess xn.toList ah.toList = false := kl_asym hk1
        have g2 : (xn.toList == ah.toList) = false := txt_ne (fun e => kl_ne hk1 e.symm)
        have g4 : ¬ 64 < xn.size := by simp only at p2; omega
        have g5 : ((xd : Int) == 0) = false := by rw [beq_eq_false_iff_ne]; simp only at p3; omega
        have g6 : ((k : Int) == 16) = false := by rw [beq_eq_false_iff_ne]; have := HL16.out; omega
        have PG : Hid (pLns V n [] l1 = pLns V (n - (k + 1)) (out ++ [⟨xn, xt, xd, xl, xe⟩]) l2) := Lib.hid (by rw [HI.out.2.2.2.2.1, PX.out, if_neg hbad])
        have HC : Hid (out.length < maxLen) := Lib.hid (by have := HL16.out; unfold maxLen; omega)
        clear hbad hgood p1 p2 p3 p4 p5 hk1
        go_wp2_with (at_mapUpdate; refine wpList_putS _ rfl _ _ _ 62 56 rfl undDd b out.length out rfl M3.out HC.out ⟨xn, xt, xd, xl, xe⟩ HX.out rfl rfl ?_; intro w4 hm4 hf4; have HM4 := Lib.hid hm4; have HF4 := Lib.hid hf4; clear hm4 hf4 x0 x1 x2 x3 x4; have T4 := HF4.out.whole B3.out (by simp; exact fun e => BY.out e.symm); have x0 := T4.cell 0; simp at x0; clear T4; go_frame)
        have NREL : Hid (Rdr w4 rb cb db l2 ∧ Frm [rb, b] w1 w4 ∧ MapS Tryd.prog KS w4 b (out ++ [(⟨xn, xt, xd, xl, xe⟩ : Ln)]).length (out ++ [⟨xn, xt, xd, xl, xe⟩]) ∧ TkOk (out ++ [(⟨xn, xt, xd, xl, xe⟩ : Ln)]) ∧ pLns V n [] l1 = pLns V (n - (k + 1)) (out ++ [⟨xn, xt, xd, xl, xe⟩]) l2 ∧ l2.length ≤ l.length ∧ (out ++ [(⟨xn, xt, xd, xl, xe⟩ : Ln)]).length = k + 1) := Lib.hid (by
          have hm := HM4.out
          rw [HI.out.2.2.2.1.put HG.out] at hm
          exact ⟨R3.out.keep HF4.out (by simp; exact NE.out.1) (by simp; exact NE.out.2.1) (by simp; exact NE.out.2.2.1), F13.out.trans HF4.out (fun x hx => hx) (fun x hx => .inl (by simp at hx; simp [hx])), hm.tight, HI.out.2.2.2.1.next HG.out PT.out.1 PT.out.2.1, PG.out, Nat.le_trans PT.out.2.2.1 HI.out.2.2.2.2.2.1, by rw [List.length_append, HL16.out]; rfl⟩)
        go_roundw
        case rel => exact ⟨k + 1, out ++ [⟨xn, xt, xd, xl, xe⟩], l2, by omega, by go_num, by rw [lastN_snoc], NREL⟩
        case measure => simp [intOf]; omega
    · obtain rfl : k = n := by omega
      have HE : Hid (∀ W, W = wr → Q (.returned (.pointer (some ⟨W.heap.size, 0, none⟩))) (W.alloc (.cells #[.map (some b)] 64))) := Lib.hid (fun W hW => by
        rw [hW]
        have h5 := HI.out.2.2.2.2.1
        rw [Nat.sub_self] at h5
        exact FIN.out out lk wr (by rw [P1.out, h5]; rfl) HI.out.2.2.2.1 HI.out.2.2.1 HI.out.1 HI.out.2.1)
      go_wp2
      exact HE.out _ rfl
end Go.Proofs.YtahhkffghhgojaaDoor
