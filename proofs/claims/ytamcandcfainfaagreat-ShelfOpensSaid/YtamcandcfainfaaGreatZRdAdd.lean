/- Contract of the document's Add. -/
import Derived.Test.YtamcandcfainfaaGreatMX
import Derived.Test.YtamcandcfainfaaGreatZRdDrop
import Derived.WalkSpells
import Derived.Deep.QuietTactic
import Derived.BigQuiet
namespace Go.Proofs.YtamcandcfainfaaGreat
open Go.RowKit
set_option maxRecDepth 100000
theorem recA_lt8 (i k s : Nat) {d : List Nat} (hd : ∀ x ∈ d, x < 256) : ∀ x ∈ recA i k s d, x < 256 := by
  intro x hx
  unfold recA cB at hx
  simp only [List.mem_append] at hx
  rcases hx with (((h | h) | h) | h) | h | h
  · exact be_lt _ _ x h
  · exact be_lt _ _ x h
  · exact be_lt _ _ x h
  · exact be_lt _ _ x h
  · exact be_lt _ _ x h
  · exact hd x h
theorem txt_ne9 {s t : ByteArray} (h : ¬ s = t) : (s.toList == t.toList) = false := by
  rw [beq_eq_false_iff_ne, ByteArray.toList_eq, ByteArray.toList_eq]
  intro e
  exact h (ByteArray.ext (Array.toList_inj.1 e))
theorem lookE_at9 {l : List (Nat × List Nat)} (hr : RiseE l) {t : Nat} (ht : t < l.length) : lookE l (l.getD t (0, [])).1 = some (l.getD t (0, [])).2 := by
  induction l generalizing t with
  | nil => simp at ht
  | cons x l ih =>
    obtain ⟨j, e⟩ := x
    have h1 := List.pairwise_cons.1 hr
    cases t with
    | zero => show (if j = j then some e else lookE l j) = some e; rw [if_pos rfl]
    | succ t =>
      have ht' : t < l.length := by simpa using ht
      have hm : l.getD t (0, []) ∈ l := by simp [ht']
      have hlt := h1.1 _ hm
      show (if (l.getD t (0, [])).1 = j then some e else lookE l (l.getD t (0, [])).1) = some (l.getD t (0, [])).2
      rw [if_neg (by simp at hlt ⊢; omega)]
      exact ih h1.2 ht'
/-- An entry's bytes, by its place. -/
theorem lookE_ix {X : List Ix} {l : List (Nat × List Nat)} {k : Nat} (hX : its X = l) (hr : RiseE l) : lookE l k = if ixN X k < X.length then some (X.getD (ixN X k) default).t.2 else none := by
  by_cases h : ixN X k < X.length
  · rw [if_pos h]
    have h1 := lookE_at9 hr (t := ixN X k) (by rw [← hX]; simpa [its] using h)
    have h2 : l.getD (ixN X k) (0, []) = (X.getD (ixN X k) default).t := by rw [← hX]; simp [its, h]
    rw [h2, ixN_key h] at h1
    exact h1
  · rw [if_neg h]
    cases hl : lookE l k with
    | none => rfl
    | some d =>
      exfalso
      have hm := lookE_mem hl
      rw [← hX] at hm
      obtain ⟨x, hx, he⟩ := List.mem_map.1 hm
      apply h
      unfold ixN
      rw [List.findIdx_lt_length]
      exact ⟨x, hx, by rw [he]; simp⟩
/-- A record in the making, its length a name of its own. -/
def RwX (w0 : World) (l : List Nat) (e : Ending) (z' : World) : Prop := ∃ a' n' cap', Hid (n' = l.length) ∧ e = .returned (.slice a' n' cap') ∧ Hid (Rw w0 z' a' cap' l)
theorem RwEnd.x {w0 z' : World} {l : List Nat} {e : Ending} (h : RwEnd w0 l e z') : RwX w0 l e z' := by
  obtain ⟨a', cap', he, hr⟩ := h
  exact ⟨a', _, cap', Lib.hid rfl, he, Lib.hid hr⟩
theorem rx_put {w0 z : World} {a : Option Addr} {n0 cap : Nat} {l : List Nat} (n k : Nat) (i : Int) (hi : i = (k : Nat)) (h : Rw w0 z a cap l) (h0 : n0 = l.length) (hn : n < 18446744073709551616) (hk : k ≤ 8) (hfit : l.length ≤ 100000000) :
    Calls Tryz.prog 37 #[.slice a n0 cap, .int .u64 n, .int .i64 i] z (RwX w0 (l ++ be k n)) := by
  subst h0; subst hi
  exact (rw_put n k h hn hk hfit).mono fun _ _ h => h.x
theorem rx_bytes {w0 z : World} {a : Option Addr} {n0 cap : Nat} {l : List Nat} (ca : Option Addr) (cn ccap : Nat) (c : List Nat) (h : Rw w0 z a cap l) (h0 : n0 = l.length) (hc : Bytes z ca c) (hca : c ≠ [] → ∀ x, ca = some x → x.block ∉ ob a) (hcn : cn = c.length) (hnil : ca = none → ccap = 0) (hfit : l.length ≤ 100000000) (hfit2 : cn ≤ 100000000) :
    Calls Tryz.prog 36 #[.slice a n0 cap, .slice ca cn ccap] z (RwX w0 (l ++ cb c)) := by
  subst h0
  exact (rw_bytes ca cn ccap c h hc hca hcn hnil hfit hfit2).mono fun _ _ h => h.x
theorem rx_head {w z : World} (i : Nat) (hi : i < N64) (hf : Frm [] w z) : Calls Tryz.prog 35 #[.int .i64 1, .int .u64 (i : Nat)] z (RwX w (recW 1 i)) := by
  refine (rhead_any z 1 i (by omega) hi).mono ?_
  rintro e w' ⟨a, c, he, h⟩
  exact RwEnd.x ⟨a, c, he, own_base h.own hf.size, hf.trans h.frm (by simp) (by simp), fun x hx => Nat.le_trans hf.size (h.new x hx)⟩
section
variable {w : World} {B : Nat} {G W : List Nat} {q m : Nat} {S : Nd9} {l : List Nat} {room mm : Nat}
set_option maxHeartbeats 16000000 in
theorem rdadd_any (i k s : Nat) (a : Option Addr) (n cap : Nat) (d : List Nat) (mends : Bool) (hi : i < N64) (hk : k < N64) (hs : s < N64) (h : Rd w B G W q m S l room mm) (hG : ∀ x ∈ G, x < w.heap.size) (hm : mm ≤ 100000) (hb : Bytes w a d) (hn : n = d.length) (hnil : a = none → cap = 0) (hout : d ≠ [] → ∀ y, a = some y → y.block ∉ W) :
    Calls Tryz.prog 15 #[.pointer (some ⟨q, 0, none⟩), .int .u64 (i : Nat), .agg #[.int .u64 (k : Nat), .slice a n cap], .int .u64 (s : Nat), .bool mends] w (RdEnd w B G W q m room (mm + 3) (.int .i64 (oE l room (addO S i k s d mends) (recA i k s d) : Nat)) (oS S l room (addO S i k s d mends) (recA i k s d) i (addL (S i) k s d)) (oL l room (addO S i k s d mends) (recA i k s d))) := by
  obtain ⟨Q, hQ⟩ : ∃ Q, Q = RdEnd w B G W q m room (mm + 3) (.int .i64 (oE l room (addO S i k s d mends) (recA i k s d) : Nat)) (oS S l room (addO S i k s d mends) (recA i k s d) i (addL (S i) k s d)) (oL l room (addO S i k s d mends) (recA i k s d)) := ⟨_, rfl⟩
  rw [← hQ]
  have SAME : Hid (∀ e : Nat, addO S i k s d mends = some e → ∀ w', RdTo w w' B G W q m S l room (mm + 3) → Q (.returned (.int .i64 (e : Nat))) w') := Lib.hid fun e he w' ht => by
    rw [hQ, he, oS_some, oL_some]
    exact ⟨rfl, ht⟩
  have WRITE : Hid (addO S i k s d mends = none → ∀ w1 W1 w2 ra rn rc, Rd w1 B G W1 q m S l room (mm + 1) → Frm W w w1 → (∀ x ∈ W1, x ∈ W ∨ w.heap.size ≤ x) → Rw w1 w2 ra rc (recA i k s d) → rn = (recA i k s d).length → Calls Tryz.prog 34 #[.pointer (some ⟨q, 0, none⟩), .slice ra rn rc] w2 fun e w' => ∃ n : Nat, e = .returned (.int .i64 (n : Nat)) ∧ Q (.returned (.int .i64 (n : Nat))) w' ∧ Frm W1 w2 w' ∧ ∀ z, Frm [] w' z → Q (.returned (.int .i64 (n : Nat))) z) := Lib.hid fun hn w1 W1 w2 ra rn rc h1 hf hx hw hrn => by
    subst hrn
    have hd : ¬ 256 < d.length := by
      intro hd
      unfold addO at hn
      by_cases h0 : i = 0
      · rw [if_pos h0] at hn; cases hn
      · rw [if_neg h0, if_pos hd] at hn; cases hn
    have hg : (S i).gone = false := by
      unfold addO at hn
      by_cases h0 : i = 0
      · rw [if_pos h0] at hn; cases hn
      · rw [if_neg h0, if_neg hd] at hn
        by_cases h1 : (S i).gone = true
        · rw [if_pos h1] at hn; cases hn
        · simpa using h1
    have hlen := recA_len i k s d
    refine (rdwrite_any (say1_of (say_A hi hk hs (by omega) hg)) (h1.here hw.frm) (fun y hy => Nat.lt_of_lt_of_le (hG y hy) (hf.trans hw.frm (U := W) (fun x hx => hx) (by simp)).size) (by omega) hw (recA_lt8 i k s hb.1) (by omega) (fun x hx => (h1.lt x hx).2.1)).mono ?_
    rintro e w' ⟨rfl, ht⟩
    have hq : ∀ z, Frm [] w' z → Q (.returned (.int .i64 (jc l (recA i k s d) room : Nat))) z := fun z hz => by
      rw [hQ]
      refine ⟨by rw [hn]; rfl, ?_⟩
      rw [hn, oS_none, oL_none]
      obtain ⟨W', k1, k2, k3⟩ := RdTo.then (hf.trans hw.frm (fun x hx => hx) (by simp)) hx ht
      exact ⟨W', k1.here hz, k2.trans hz (fun x hx => hx) (by simp), k3⟩
    obtain ⟨W', k1, k2, k3⟩ := ht
    exact ⟨_, rfl, hq _ (Frm.refl _ _), k2, hq⟩
  obtain ⟨w0, hw0⟩ : ∃ w0, w0 = w.alloc (.cells #[.int .u64 (k : Nat), .slice a n cap] 57) := ⟨_, rfl⟩
  obtain ⟨bx, hbx⟩ : ∃ bx, bx = w.heap.size := ⟨_, rfl⟩
  have hWB := Whole.made w 57 #[.int .u64 (k : Nat), .slice a n cap]
  rw [← hw0, ← hbx] at hWB
  have hf0 : Frm [] w w0 := by rw [hw0]; exact (Frm.refl _ _).alloc _
  have HOF := Lib.hid (rdof_any i hi (h.here hf0) (fun x hx => Nat.lt_of_lt_of_le (hG x hx) hf0.size) (by omega))
  have hbW : bx ∉ W := fun hm' => by have := (h.lt bx hm').2.1; omega
  have HB0 := Lib.hid (hf0.bytes' hb (by simp))
  have HBlt : Hid (d ≠ [] → ∀ y, a = some y → y.block < w.heap.size) := Lib.hid (fun hne y hy => bytes_lt hb hne y hy)
  have HF0 := Lib.hid hf0
  have HW0 := Lib.hid hw0
  have HBX := Lib.hid hbx
  have HWB := Lib.hid hWB
  have HBW := Lib.hid hbW
  have H := Lib.hid h
  have HNN := Lib.hid hn
  have HNIL := Lib.hid hnil
  have HOUT := Lib.hid hout
  have HB8 := Lib.hid hb.1
  clear h hG hQ hb hn hnil hout hw0 hbx hWB hf0 hbW
  go_enter Tryz.func15, Tryz.ntmps15
  by_cases h0 : i = 0
  · have HE : Hid (∀ z, Frm [] w z → Q (.returned (.int .i64 (2 : Nat))) z) := Lib.hid fun z hz => SAME.out 2 (by unfold addO; rw [if_pos h0]) z (RdTo.same H.out hz (by omega))
    have e0 : ((i : Int) == 0) = true := by rw [beq_iff_eq]; omega
    clear SAME WRITE HOF h0
    go_wp2
    exact HE.out _ ((Frm.refl _ _).alloc _)
  · have e0 : ((i : Int) == 0) = false := by rw [beq_eq_false_iff_ne]; omega
    have H0 := Lib.hid h0
    clear h0
    by_cases h256 : 256 < n
    · have HE : Hid (∀ z, Frm [] w z → Q (.returned (.int .i64 (3 : Nat))) z) := Lib.hid fun z hz => SAME.out 3 (by unfold addO; rw [if_neg H0.out, if_pos (by have := HNN.out; omega)]) z (RdTo.same H.out hz (by omega))
      have e1 : decide ((256 : Int) < (n : Int)) = true := decide_eq_true (by omega)
      clear SAME WRITE HOF h256
      go_wp2
      exact HE.out _ ((Frm.refl _ _).alloc _)
    · have e1 : decide ((256 : Int) < (n : Int)) = false := decide_eq_false (by omega)
      have H256 := Lib.hid h256
      have hn256 : n ≤ 256 := by omega
      clear h256
      go_wp2_with fail
      rw [← HW0.out, ← HBX.out]
      (with_reducible refine HOF.out.mono ?_)
      rintro e w1 ⟨at', g, W1, xa, xn, xc, X, rn, rc, rfl, hrd, hf1, hx1, h9⟩
      have hW1b := hf1.whole HWB.out HBW.out
      have hb1 : Bytes w1 a d := hf1.bytes' HB0.out HOUT.out
      have b0 := h9.box
      obtain ⟨idn, c0⟩ := h9.idc
      have c1 := h9.fen
      have c2 := h9.gone
      have c3 := h9.sure
      have c4 := h9.items
      have lt := h9.lt
      have few : rn ≤ 1000000 := by have := h9.few.1; omega
      obtain ⟨x, hx⟩ : ∃ x, x = S i := ⟨_, rfl⟩
      rw [← hx] at c1 c2 c3 h9
      obtain ⟨gn, hgn⟩ : ∃ gn, gn = x.gone := ⟨_, rfl⟩
      obtain ⟨fn, hfn⟩ : ∃ fn, fn = x.fen := ⟨_, rfl⟩
      obtain ⟨sn, hsn⟩ : ∃ sn, sn = x.sure := ⟨_, rfl⟩
      rw [← hgn] at c2
      rw [← hfn] at c1
      rw [← hsn] at c3
      obtain ⟨w2, hw2⟩ : ∃ w2, w2 = w1.alloc (.cells #[.int .u64 (idn : Nat), .bool fn, .bool gn, .int .u64 (sn : Nat), .slice xa xn xc] 82) := ⟨_, rfl⟩
      obtain ⟨lb, hlb⟩ : ∃ lb, lb = w1.heap.size := ⟨_, rfl⟩
      have hWL := Whole.made w1 82 #[.int .u64 (idn : Nat), .bool fn, .bool gn, .int .u64 (sn : Nat), .slice xa xn xc]
      rw [← hw2, ← hlb] at hWL
      have hf2 : Frm [] w1 w2 := by rw [hw2]; exact (Frm.refl _ _).alloc _
      have hil2 := h9.il.keep hf2 (F' := []) (by simp) (by simp)
      have HIT := Lib.hid (ritem_any lb 0 k xn xc xa X (hWL.cell 4) h9.len hil2 (by have := h9.few.2; have := h9.len; omega))
      have hl0 := hWL.cell 0
      have hl1 := hWL.cell 1
      have hl2 := hWL.cell 2
      have hl3 := hWL.cell 3
      have hl4 := hWL.cell 4
      simp at hl0 hl1 hl2 hl3 hl4
      have hw2b := hf2.whole hW1b (by simp)
      have hk0 := hw2b.cell 0
      have hk1 := hw2b.cell 1
      simp at hk0 hk1
      rw [hw2] at hk0
      have hbne : bx ≠ w1.heap.size := by have := hW1b.lt; omega
      have hLK := lookE_ix (k := k) h9.its h9.rise
      have HLK := Lib.hid hLK
      have HIL2 := Lib.hid hil2
      have HXN := Lib.hid h9.len
      have HRD := Lib.hid hrd
      have HF1 := Lib.hid hf1
      have HX1 := Lib.hid hx1
      have HXX := Lib.hid hx
      have HGN := Lib.hid hgn
      have HFN := Lib.hid hfn
      have HSN := Lib.hid hsn
      have HW2 := Lib.hid hw2
      have HLB := Lib.hid hlb
      have HF2 := Lib.hid hf2
      have HB2 := Lib.hid (hf2.bytes' hb1 (by simp))
      have HWL := Lib.hid hWL
      have HW2B := Lib.hid hw2b
      have HXFEW : Hid (X.length ≤ 1000000) := Lib.hid (by have := h9.few.2; omega)
      clear hrd hf1 hx1 h9 hx hgn hfn hsn hw2 hlb hWL hf2 hil2 hw2b hW1b hb1 hLK HOF hl0 hl1 hl2 hl3 hl4 hk1
      go_wp2_with fail
      rw [← HW2.out, ← HLB.out]
      clear b0 c0 c1 c2 c3 c4 hk0 lt few
      have hk0 := HW2B.out.cell 0
      have hk1 := HW2B.out.cell 1
      have hl1 := HWL.out.cell 1
      have hl2 := HWL.out.cell 2
      have hl3 := HWL.out.cell 3
      have hl4 := HWL.out.cell 4
      simp at hk0 hk1 hl1 hl2 hl3 hl4
      (with_reducible refine HIT.out.mono ?_)
      rintro e w2' ⟨rfl, rfl⟩
      clear HIT
      have HT : Hid (∀ z, Frm [] w2 z → RdTo w z B G W q m S l room (mm + 3)) := Lib.hid fun z hz => ⟨W1, ((HRD.out.here HF2.out).here hz).more (by omega), ((HF0.out.trans HF1.out (U := W) (by simp) (fun x hx => .inl hx)).trans HF2.out (fun x hx => hx) (by simp)).trans hz (fun x hx => hx) (by simp), fun x hx => by
        rcases HX1.out x hx with h1 | h1
        · exact .inl h1
        · have := HF0.out.size; exact .inr (by omega)⟩
      cases gn with
      | true =>
        have HE := Lib.hid (SAME.out 24 (by unfold addO; rw [if_neg H0.out, if_neg (by have := HNN.out; have := H256.out; omega), ← HXX.out, if_pos HGN.out.symm]))
        clear SAME WRITE
        go_wp2
        exact HE.out _ (HT.out _ (Frm.refl _ _))
      | false =>
        have HPRE : Hid (addO S i k s d mends = if (fn && !mends) = true then some 20 else match lookE x.ents k with
            | none => none
            | some d0 => if d0 = d then (if s ≤ sn then some 0 else none) else some 21) := Lib.hid (by
          unfold addO
          rw [if_neg H0.out, if_neg (by have := HNN.out; have := H256.out; omega), ← HXX.out, if_neg (by rw [← HGN.out]; simp), ← HFN.out, ← HSN.out]
          rfl)
        obtain ⟨ao, hao⟩ : ∃ ao, ao = addO S i k s d mends := ⟨_, rfl⟩
        rw [← hao] at SAME WRITE HPRE
        clear hao
        have hfm : (fn = true ∧ mends = false) ∨ fn = false ∨ (fn = true ∧ mends = true) := by cases fn <;> cases mends <;> simp
        rcases hfm with ⟨rfl, rfl⟩ | rfl | ⟨rfl, rfl⟩
        · have HE := Lib.hid (SAME.out 20 (by rw [HPRE.out]; rfl))
          clear SAME WRITE
          go_wp2
          exact HE.out _ (HT.out _ (Frm.refl _ _))
        all_goals (
          obtain ⟨iv, hiv⟩ : ∃ iv, iv = ixI X k := ⟨_, rfl⟩
          rw [← hiv]
          by_cases hin : ixN X k < X.length
          · obtain ⟨j, hj⟩ : ∃ j, j = ixN X k := ⟨_, rfl⟩
            have hivj : iv = (j : Nat) := by rw [hiv]; unfold ixI; rw [if_pos hin, hj]
            have HL : Hid (lookE x.ents k = some (X.getD j default).t.2) := Lib.hid (by rw [HLK.out, if_pos hin, hj])
            rw [← hj] at hin
            obtain ⟨xb, xo, hxa, x0, x1, okx⟩ := HIL2.out.at hin
            subst hxa
            have hjn : j < xn := by have := HXN.out; omega
            generalize X.getD j default = y at HL x0 x1 okx
            obtain ⟨⟨yk, yv⟩, ya, yc⟩ := y
            have hyb := okx.bytes
            simp only at x0 x1 hyb HL
            obtain ⟨vn, hvn⟩ : ∃ vn, vn = yv.length := ⟨_, rfl⟩
            rw [← hvn] at x1
            have hge : decide ((0 : Int) ≤ (j : Int)) = true := decide_eq_true (by omega)
            have hge2 : decide ((0 : Int) ≤ iv) = true := by rw [hivj]; exact hge
            obtain ⟨s1, hs1⟩ : ∃ s1, s1 = strOf yv := ⟨_, rfl⟩
            obtain ⟨s2, hs2⟩ : ∃ s2, s2 = strOf d := ⟨_, rfl⟩
            have v1 : ∀ e, (convert 35 9 (.slice ya vn yc)).run Tryz.prog (w2.drewN e) = .ok (.string s1) (w2.drewN e) := fun e => by
              rw [hs1]; exact run_to_string (P := Tryz.prog) (e := 5) Tryz.underlying35 Tryz.underlying5 Tryz.underlying9 (((Frm.refl [] w2).drewN e).bytes hyb (by simp)) hvn
            have hnn := HNN.out
            have hbb := HB2.out
            have v2 : ∀ e, (convert 35 9 (.slice a n cap)).run Tryz.prog (w2.drewN e) = .ok (.string s2) (w2.drewN e) := fun e => by
              rw [hs2]; exact run_to_string (P := Tryz.prog) (e := 5) Tryz.underlying35 Tryz.underlying5 Tryz.underlying9 (((Frm.refl [] w2).drewN e).bytes hbb (by simp)) hnn
            subst hivj
            clear hnn hbb hiv
            by_cases hsd : yv = d
            · have h12 : s1 = s2 := by rw [hs1, hs2, hsd]
              subst h12
              have hee : (s1.toList == s1.toList) = true := by simp
              by_cases hsu : s ≤ sn
              · have HE := Lib.hid (SAME.out 0 (by rw [HPRE.out, HL.out]; simp [hsd, hsu]))
                have hsd2 : decide ((s : Int) ≤ (sn : Int)) = true := decide_eq_true (by omega)
                have hsd3 : decide (s ≤ sn) = true := decide_eq_true hsu
                clear SAME WRITE hsd hvn hs1 hs2 hyb okx x0 hj hin HL hsu
                go_wp2
                go_quiet (fail)
                go_wp2
                exact HE.out _ (HT.out _ (by first | exact (Frm.refl _ _).drewN _ | exact ((Frm.refl _ _).drewN _).drewN _))
              · have HN : Hid (ao = none) := Lib.hid (by rw [HPRE.out, HL.out]; simp [hsd, hsu])
                have hsd2 : decide ((s : Int) ≤ (sn : Int)) = false := decide_eq_false (by omega)
                have hsd3 : decide (s ≤ sn) = false := decide_eq_false hsu
                clear SAME hvn hs1 hs2 okx x0 hj hin HL hsu
                have HRD2 := Lib.hid (HRD.out.here HF2.out)
                have HFW : Hid (Frm W w w2) := Lib.hid ((HF0.out.trans HF1.out (U := W) (by simp) (fun x hx => .inl hx)).trans HF2.out (fun x hx => hx) (by simp))
                have HXW : Hid (∀ x ∈ W1, x ∈ W ∨ w.heap.size ≤ x) := Lib.hid fun x hx => by
                  rcases HX1.out x hx with h1 | h1
                  · exact .inl h1
                  · have := HF0.out.size; exact .inr (by omega)
                have HSZ : Hid (w.heap.size ≤ w2.heap.size) := Lib.hid HFW.out.size
                have hbxW : bx ∉ W1 := fun hm' => by
                  rcases HX1.out bx hm' with h1 | h1
                  · exact HBW.out h1
                  · have := HWB.out.lt; omega
                have HHD := Lib.hid (fun (z : World) (hz : Frm [] w2 z) => rx_head (w := w2) (z := z) i hi hz)
                have K0 : ∀ y, Frm W1 w2 y → y.cell? ⟨bx, 0, none⟩ = some (.int .u64 (k : Nat)) := fun y hy => (hy.whole HW2B.out hbxW).cell 0
                have K1 : ∀ y, Frm W1 w2 y → y.cell? ⟨bx, 1, none⟩ = some (.slice a n cap) := fun y hy => (hy.whole HW2B.out hbxW).cell 1
                clear hsd hyb
                go_wp2
                go_quiet (fail)
                go_wp2
                refine wp_region_held_drew (S := fun w' => Frm W1 w2 w') (by kernel_rfl) (by first | exact (((Frm.refl _ _).drewN _).drewN _).drew | exact ((Frm.refl _ _).drewN _).drew | exact (Frm.refl _ _).drew) (fun hHeld => ?_)
                refine wpAnyH_take (i := 0) (oi := ⟨some 68, _, _, _, _, _⟩) (v := ?_) rfl (by kernel_rfl) (by kernel_rfl) (by kernel_rfl) (fun _ _ _ h => h) (Or.inl ⟨by rfl, ?_⟩) (by assumption) ?_
                rotate_left 1
                · (intro w hSw; (try dsimp only at hSw); go_simp; all_goals with_reducible rfl)
                try simp only [Act.put, List.setIfInBounds_toArray, List.set_cons_zero, List.set_cons_succ]
                refine wpAnyH_take (i := 1) (oi := ⟨some 69, _, _, _, _, _⟩) (v := ?_) rfl (by kernel_rfl) (by kernel_rfl) (by kernel_rfl) (fun _ _ _ h => h) (Or.inl ⟨by rfl, ?_⟩) (by assumption) ?_
                rotate_left 1
                · (intro w hSw; (try dsimp only at hSw); go_simp; all_goals with_reducible rfl)
                try simp only [Act.put, List.setIfInBounds_toArray, List.set_cons_zero, List.set_cons_succ]
                refine wpAnyH_take (i := 3) (oi := ⟨some 71, _, _, _, _, _⟩) (v := ?_) rfl (by kernel_rfl) (by kernel_rfl) (by kernel_rfl) (fun _ _ _ h => h) (Or.inl ⟨by rfl, ?_⟩) (by assumption) ?_
                rotate_left 1
                · (intro w hSw; (try dsimp only at hSw); go_simp; all_goals with_reducible rfl)
                try simp only [Act.put, List.setIfInBounds_toArray, List.set_cons_zero, List.set_cons_succ]
                refine wpAnyH_take (i := 4) (oi := ⟨some 72, _, _, _, _, _⟩) (v := ?_) rfl (by kernel_rfl) (by kernel_rfl) (by kernel_rfl) (fun _ _ _ h => h) (Or.inl ⟨by rfl, ?_⟩) (by assumption) ?_
                rotate_left 1
                · (intro w hSw; (try dsimp only at hSw); go_simp; all_goals with_reducible rfl)
                try simp only [Act.put, List.setIfInBounds_toArray, List.set_cons_zero, List.set_cons_succ]
                refine wpAnyH_take (i := 6) (oi := ⟨some 74, _, _, _, _, _⟩) (v := ?_) rfl (by kernel_rfl) (by kernel_rfl) (by kernel_rfl) (fun _ _ _ h => h) (Or.inl ⟨by rfl, ?_⟩) (by assumption) ?_
                rotate_left 1
                · (intro w hSw; (try dsimp only at hSw); go_simp; all_goals with_reducible rfl)
                try simp only [Act.put, List.setIfInBounds_toArray, List.set_cons_zero, List.set_cons_succ]
                refine wpAnyH_take (i := 8) (oi := ⟨some 76, _, _, _, _, _⟩) (v := ?_) rfl (by kernel_rfl) (by kernel_rfl) (by kernel_rfl) (fun _ _ _ h => h) (Or.inl ⟨by rfl, ?_⟩) (by assumption) ?_
                rotate_left 1
                · (intro w hSw; (try dsimp only at hSw); go_simp; all_goals with_reducible rfl)
                try simp only [Act.put, List.setIfInBounds_toArray, List.set_cons_zero, List.set_cons_succ]
                refine wpAnyH_take (i := 9) (oi := ⟨some 77, _, _, _, _, _⟩) (v := ?_) rfl (by kernel_rfl) (by kernel_rfl) (by kernel_rfl) (fun _ _ _ h => h) (Or.inl ⟨by rfl, ?_⟩) (by assumption) ?_
                rotate_left 1
                · (intro w hSw; (try dsimp only at hSw); go_simp; all_goals with_reducible rfl)
                try simp only [Act.put, List.setIfInBounds_toArray, List.set_cons_zero, List.set_cons_succ]
                refine wpAnyH_ready (rs := [2]) (by kernel_rfl) (by simp) ?_
                refine AllReadyH.cons (o := ⟨some 70, _, _, _, _, _⟩) rfl (fun K hK => ?_) AllReadyH.nil
                go_simp
                (go_at_call 35; (refine (HHD.out _ (by first | exact (((Frm.refl _ _).drewN _).drewN _).drew | exact ((Frm.refl _ _).drewN _).drew | exact (Frm.refl _ _).drew)).mono ?_); rintro e w4 ⟨a4, n4, c4', L4, rfl, R4⟩; have S4 : Frm W1 w2 w4 := R4.out.frm.weak (by simp))
                go_wp2_with fail
                refine hK.out _ _ (by assumption) (fun hHeld => ?_)
                clear hK K
                try simp only [Act.put, List.setIfInBounds_toArray, List.set_cons_zero, List.set_cons_succ]
                refine wpAnyH_ready (rs := [5]) (by kernel_rfl) (by simp) ?_
                refine AllReadyH.cons (o := ⟨some 73, _, _, _, _, _⟩) rfl (fun K hK => ?_) AllReadyH.nil
                go_simp
                (go_at_call 37; (refine (rx_put k 8 8 rfl R4.out L4.out hk (by omega) (by rw [recW_len]; omega)).mono ?_); rintro e w5 ⟨a5, n5, c5, L5, rfl, R5⟩; have S5 : Frm W1 w2 w5 := R5.out.frm.weak (by simp))
                go_wp2_with fail
                refine hK.out _ _ (by assumption) (fun hHeld => ?_)
                clear hK K
                try simp only [Act.put, List.setIfInBounds_toArray, List.set_cons_zero, List.set_cons_succ]
                refine wpAnyH_ready (rs := [7]) (by kernel_rfl) (by simp) ?_
                refine AllReadyH.cons (o := ⟨some 75, _, _, _, _, _⟩) rfl (fun K hK => ?_) AllReadyH.nil
                go_simp
                (go_at_call 37; (refine (rx_put s 8 8 rfl R5.out L5.out hs (by omega) (by simp [recW_len, be_length])).mono ?_); rintro e w6 ⟨a6, n6, c6, L6, rfl, R6⟩; have S6 : Frm W1 w2 w6 := R6.out.frm.weak (by simp))
                go_wp2_with fail
                refine hK.out _ _ (by assumption) (fun hHeld => ?_)
                clear hK K
                try simp only [Act.put, List.setIfInBounds_toArray, List.set_cons_zero, List.set_cons_succ]
                refine wpAnyH_ready (rs := [10]) (by kernel_rfl) (by simp) ?_
                refine AllReadyH.cons (o := ⟨some 78, _, _, _, _, _⟩) rfl (fun K hK => ?_) AllReadyH.nil
                go_simp
                (go_at_call 36; (refine (rx_bytes a n cap d R6.out L6.out (R6.out.frm.bytes' HB2.out (by simp)) (fun hne y hy hm' => by have h1 := R6.out.new _ hm'; have h2 := HBlt.out hne y hy; have h3 := HSZ.out; omega) HNN.out HNIL.out (by simp [recW_len, be_length]) (by omega)).mono ?_); rintro e w7 ⟨a7, n7, c7, L7, rfl, R7⟩; have S7 : Frm W1 w2 w7 := R7.out.frm.weak (by simp))
                go_wp2_with fail
                refine hK.out _ _ (by assumption) (fun hHeld => ?_)
                clear hK K
                try simp only [Act.put, List.setIfInBounds_toArray, List.set_cons_zero, List.set_cons_succ]
                refine wpAnyH_ready (rs := [11]) (by kernel_rfl) (by simp) ?_
                refine AllReadyH.cons (o := ⟨some 79, _, _, _, _, _⟩) rfl (fun K hK => ?_) AllReadyH.nil
                go_simp
                (go_at_call 34; (refine (WRITE.out HN.out w2 W1 w7 a7 n7 c7 HRD2.out HFW.out HXW.out R7.out L7.out).mono ?_); rintro e w8 ⟨en, rfl, hq8, hf8, hq⟩; have S8 : Frm W1 w2 w8 := R7.out.frm.trans hf8 (by simp) (fun x hx => .inl hx))
                go_wp2_with fail
                refine hK.out _ _ (by assumption) (fun hHeld => ?_)
                clear hK K
                try simp only [Act.put, List.setIfInBounds_toArray, List.set_cons_zero, List.set_cons_succ]
                refine wpAnyH_take (i := 12) (oi := ⟨some 10, _, _, _, _, _⟩) (v := ?_) rfl (by kernel_rfl) (by kernel_rfl) (by kernel_rfl) (fun _ _ _ h => h) (Or.inl ⟨by rfl, ?_⟩) (by assumption) ?_
                rotate_left 1
                · (intro w hSw; (try dsimp only at hSw); go_simp; all_goals with_reducible rfl)
                try simp only [Act.put, List.setIfInBounds_toArray, List.set_cons_zero, List.set_cons_succ]
                refine wpAnyH_done (by kernel_rfl) ?_ _
                have HQ8 := Lib.hid hq
                clear hq hq8 hf8 S8 S7 S6 S5 S4
                go_wp2
                exact HQ8.out _ (by first | exact Frm.refl _ _ | exact (Frm.refl _ _).drew | exact (Frm.refl _ _).drewN _)
            · have h12 : ¬ s1 = s2 := fun e => hsd (strOf_inj hyb.1 HB8.out (by rw [← hs1, ← hs2]; exact e))
              have hee : (s1.toList == s2.toList) = false := txt_ne9 h12
              have HE := Lib.hid (SAME.out 21 (by rw [HPRE.out, HL.out]; simp [hsd]))
              clear SAME WRITE hsd hvn hs1 hs2 hyb okx x0 hj hin HL h12
              go_wp2
              go_quiet (fail)
              go_wp2
              exact HE.out _ (HT.out _ (by first | exact (Frm.refl _ _).drewN _ | exact ((Frm.refl _ _).drewN _).drewN _))
          · have hivj : iv = -1 := by rw [hiv]; unfold ixI; rw [if_neg hin]
            have HN : Hid (ao = none) := Lib.hid (by rw [HPRE.out, HLK.out, if_neg hin]; rfl)
            subst hivj
            clear SAME hiv hin
            have HRD2 := Lib.hid (HRD.out.here HF2.out)
            have HFW : Hid (Frm W w w2) := Lib.hid ((HF0.out.trans HF1.out (U := W) (by simp) (fun x hx => .inl hx)).trans HF2.out (fun x hx => hx) (by simp))
            have HXW : Hid (∀ x ∈ W1, x ∈ W ∨ w.heap.size ≤ x) := Lib.hid fun x hx => by
              rcases HX1.out x hx with h1 | h1
              · exact .inl h1
              · have := HF0.out.size; exact .inr (by omega)
            have HSZ : Hid (w.heap.size ≤ w2.heap.size) := Lib.hid HFW.out.size
            have hbxW : bx ∉ W1 := fun hm' => by
              rcases HX1.out bx hm' with h1 | h1
              · exact HBW.out h1
              · have := HWB.out.lt; omega
            have HHD := Lib.hid (fun (z : World) (hz : Frm [] w2 z) => rx_head (w := w2) (z := z) i hi hz)
            have K0 : ∀ y, Frm W1 w2 y → y.cell? ⟨bx, 0, none⟩ = some (.int .u64 (k : Nat)) := fun y hy => (hy.whole HW2B.out hbxW).cell 0
            have K1 : ∀ y, Frm W1 w2 y → y.cell? ⟨bx, 1, none⟩ = some (.slice a n cap) := fun y hy => (hy.whole HW2B.out hbxW).cell 1
            go_wp2
            go_quiet (fail)
            go_wp2
            refine wp_region_held_drew (S := fun w' => Frm W1 w2 w') (by kernel_rfl) (by first | exact (((Frm.refl _ _).drewN _).drewN _).drew | exact ((Frm.refl _ _).drewN _).drew | exact (Frm.refl _ _).drew) (fun hHeld => ?_)
            refine wpAnyH_take (i := 0) (oi := ⟨some 68, _, _, _, _, _⟩) (v := ?_) rfl (by kernel_rfl) (by kernel_rfl) (by kernel_rfl) (fun _ _ _ h => h) (Or.inl ⟨by rfl, ?_⟩) (by assumption) ?_
            rotate_left 1
            · (intro w hSw; (try dsimp only at hSw); go_simp; all_goals with_reducible rfl)
            try simp only [Act.put, List.setIfInBounds_toArray, List.set_cons_zero, List.set_cons_succ]
            refine wpAnyH_take (i := 1) (oi := ⟨some 69, _, _, _, _, _⟩) (v := ?_) rfl (by kernel_rfl) (by kernel_rfl) (by kernel_rfl) (fun _ _ _ h => h) (Or.inl ⟨by rfl, ?_⟩) (by assumption) ?_
            rotate_left 1
            · (intro w hSw; (try dsimp only at hSw); go_simp; all_goals with_reducible rfl)
            try simp only [Act.put, List.setIfInBounds_toArray, List.set_cons_zero, List.set_cons_succ]
            refine wpAnyH_take (i := 3) (oi := ⟨some 71, _, _, _, _, _⟩) (v := ?_) rfl (by kernel_rfl) (by kernel_rfl) (by kernel_rfl) (fun _ _ _ h => h) (Or.inl ⟨by rfl, ?_⟩) (by assumption) ?_
            rotate_left 1
            · (intro w hSw; (try dsimp only at hSw); go_simp; all_goals with_reducible rfl)
            try simp only [Act.put, List.setIfInBounds_toArray, List.set_cons_zero, List.set_cons_succ]
            refine wpAnyH_take (i := 4) (oi := ⟨some 72, _, _, _, _, _⟩) (v := ?_) rfl (by kernel_rfl) (by kernel_rfl) (by kernel_rfl) (fun _ _ _ h => h) (Or.inl ⟨by rfl, ?_⟩) (by assumption) ?_
            rotate_left 1
            · (intro w hSw; (try dsimp only at hSw); go_simp; all_goals with_reducible rfl)
            try simp only [Act.put, List.setIfInBounds_toArray, List.set_cons_zero, List.set_cons_succ]
            refine wpAnyH_take (i := 6) (oi := ⟨some 74, _, _, _, _, _⟩) (v := ?_) rfl (by kernel_rfl) (by kernel_rfl) (by kernel_rfl) (fun _ _ _ h => h) (Or.inl ⟨by rfl, ?_⟩) (by assumption) ?_
            rotate_left 1
            · (intro w hSw; (try dsimp only at hSw); go_simp; all_goals with_reducible rfl)
            try simp only [Act.put, List.setIfInBounds_toArray, List.set_cons_zero, List.set_cons_succ]
            refine wpAnyH_take (i := 8) (oi := ⟨some 76, _, _, _, _, _⟩) (v := ?_) rfl (by kernel_rfl) (by kernel_rfl) (by kernel_rfl) (fun _ _ _ h => h) (Or.inl ⟨by rfl, ?_⟩) (by assumption) ?_
            rotate_left 1
            · (intro w hSw; (try dsimp only at hSw); go_simp; all_goals with_reducible rfl)
            try simp only [Act.put, List.setIfInBounds_toArray, List.set_cons_zero, List.set_cons_succ]
            refine wpAnyH_take (i := 9) (oi := ⟨some 77, _, _, _, _, _⟩) (v := ?_) rfl (by kernel_rfl) (by kernel_rfl) (by kernel_rfl) (fun _ _ _ h => h) (Or.inl ⟨by rfl, ?_⟩) (by assumption) ?_
            rotate_left 1
            · (intro w hSw; (try dsimp only at hSw); go_simp; all_goals with_reducible rfl)
            try simp only [Act.put, List.setIfInBounds_toArray, List.set_cons_zero, List.set_cons_succ]
            refine wpAnyH_ready (rs := [2]) (by kernel_rfl) (by simp) ?_
            refine AllReadyH.cons (o := ⟨some 70, _, _, _, _, _⟩) rfl (fun K hK => ?_) AllReadyH.nil
            go_simp
            (go_at_call 35; (refine (HHD.out _ (by first | exact (((Frm.refl _ _).drewN _).drewN _).drew | exact ((Frm.refl _ _).drewN _).drew | exact (Frm.refl _ _).drew)).mono ?_); rintro e w4 ⟨a4, n4, c4', L4, rfl, R4⟩; have S4 : Frm W1 w2 w4 := R4.out.frm.weak (by simp))
            go_wp2_with fail
            refine hK.out _ _ (by assumption) (fun hHeld => ?_)
            clear hK K
            try simp only [Act.put, List.setIfInBounds_toArray, List.set_cons_zero, List.set_cons_succ]
            refine wpAnyH_ready (rs := [5]) (by kernel_rfl) (by simp) ?_
            refine AllReadyH.cons (o := ⟨some 73, _, _, _, _, _⟩) rfl (fun K hK => ?_) AllReadyH.nil
            go_simp
            (go_at_call 37; (refine (rx_put k 8 8 rfl R4.out L4.out hk (by omega) (by rw [recW_len]; omega)).mono ?_); rintro e w5 ⟨a5, n5, c5, L5, rfl, R5⟩; have S5 : Frm W1 w2 w5 := R5.out.frm.weak (by simp))
            go_wp2_with fail
            refine hK.out _ _ (by assumption) (fun hHeld => ?_)
            clear hK K
            try simp only [Act.put, List.setIfInBounds_toArray, List.set_cons_zero, List.set_cons_succ]
            refine wpAnyH_ready (rs := [7]) (by kernel_rfl) (by simp) ?_
            refine AllReadyH.cons (o := ⟨some 75, _, _, _, _, _⟩) rfl (fun K hK => ?_) AllReadyH.nil
            go_simp
            (go_at_call 37; (refine (rx_put s 8 8 rfl R5.out L5.out hs (by omega) (by simp [recW_len, be_length])).mono ?_); rintro e w6 ⟨a6, n6, c6, L6, rfl, R6⟩; have S6 : Frm W1 w2 w6 := R6.out.frm.weak (by simp))
            go_wp2_with fail
            refine hK.out _ _ (by assumption) (fun hHeld => ?_)
            clear hK K
            try simp only [Act.put, List.setIfInBounds_toArray, List.set_cons_zero, List.set_cons_succ]
            refine wpAnyH_ready (rs := [10]) (by kernel_rfl) (by simp) ?_
            refine AllReadyH.cons (o := ⟨some 78, _, _, _, _, _⟩) rfl (fun K hK => ?_) AllReadyH.nil
            go_simp
            (go_at_call 36; (refine (rx_bytes a n cap d R6.out L6.out (R6.out.frm.bytes' HB2.out (by simp)) (fun hne y hy hm' => by have h1 := R6.out.new _ hm'; have h2 := HBlt.out hne y hy; have h3 := HSZ.out; omega) HNN.out HNIL.out (by simp [recW_len, be_length]) (by omega)).mono ?_); rintro e w7 ⟨a7, n7, c7, L7, rfl, R7⟩; have S7 : Frm W1 w2 w7 := R7.out.frm.weak (by simp))
            go_wp2_with fail
            refine hK.out _ _ (by assumption) (fun hHeld => ?_)
            clear hK K
            try simp only [Act.put, List.setIfInBounds_toArray, List.set_cons_zero, List.set_cons_succ]
            refine wpAnyH_ready (rs := [11]) (by kernel_rfl) (by simp) ?_
            refine AllReadyH.cons (o := ⟨some 79, _, _, _, _, _⟩) rfl (fun K hK => ?_) AllReadyH.nil
            go_simp
            (go_at_call 34; (refine (WRITE.out HN.out w2 W1 w7 a7 n7 c7 HRD2.out HFW.out HXW.out R7.out L7.out).mono ?_); rintro e w8 ⟨en, rfl, hq8, hf8, hq⟩; have S8 : Frm W1 w2 w8 := R7.out.frm.trans hf8 (by simp) (fun x hx => .inl hx))
            go_wp2_with fail
            refine hK.out _ _ (by assumption) (fun hHeld => ?_)
            clear hK K
            try simp only [Act.put, List.setIfInBounds_toArray, List.set_cons_zero, List.set_cons_succ]
            refine wpAnyH_take (i := 12) (oi := ⟨some 10, _, _, _, _, _⟩) (v := ?_) rfl (by kernel_rfl) (by kernel_rfl) (by kernel_rfl) (fun _ _ _ h => h) (Or.inl ⟨by rfl, ?_⟩) (by assumption) ?_
            rotate_left 1
            · (intro w hSw; (try dsimp only at hSw); go_simp; all_goals with_reducible rfl)
            try simp only [Act.put, List.setIfInBounds_toArray, List.set_cons_zero, List.set_cons_succ]
            refine wpAnyH_done (by kernel_rfl) ?_ _
            have HQ8 := Lib.hid hq
            clear hq hq8 hf8 S8 S7 S6 S5 S4
            go_wp2
            exact HQ8.out _ (by first | exact Frm.refl _ _ | exact (Frm.refl _ _).drew | exact (Frm.refl _ _).drewN _)
            )
end
end Go.Proofs.YtamcandcfainfaaGreat
