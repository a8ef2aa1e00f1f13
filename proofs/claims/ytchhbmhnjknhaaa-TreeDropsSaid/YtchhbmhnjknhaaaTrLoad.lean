/- Contract of the program's Load. -/
import Derived.Test.YtchhbmhnjknhaaaTrRight
import Derived.Test.YtchhbmhnjknhaaaTrDrop
import Derived.Test.YtchhbmhnjknhaaaOwnVals
namespace Go.Proofs.Ytchhbmhnjknhaaa
open Go.RowKit

/-- At the head of Load's loop. -/
structure LdAt (w : World) (p : Nat) (F : List Nat) (M : List Nd) (k : Nat) (a' : Option Addr) (c' : Nat) (L : List Nx) (qs : List Nat) (wr : World) : Prop where
  tree : Whole wr p 65 #[.slice a' k c']
  own : wr.ownsRow w.heap.size 71 1 (.slice a' k c') k (qs.map ptr)
  nat : NdsAt wr L qs
  nds : nds L = M.take k
  ok : NOk wr (blk a' ++ (p :: F)) L
  qp : ∀ q ∈ qs, p < q
  frm : Frm [] w wr
  hp : w.heap.size ≤ p
  out : ∀ x ∈ F, x < w.heap.size
theorem LdAt.k {w : World} {p : Nat} {F : List Nat} {M : List Nd} {k : Nat} {a' : Option Addr} {c' : Nat} {L : List Nx} {qs : List Nat} {wr : World} (h : LdAt w p F M k a' c' L qs wr) : qs.length = k ∧ L.length = k := by
  have h1 := h.own.1
  rw [List.length_map] at h1
  have h2 := h.nat.1
  omega
def LdRel (w : World) (p : Nat) (F : List Nat) (M : List Nd) (u14 : Value) (wr : World) : Prop := ∃ k a' c' L qs, k ≤ M.length ∧ u14 = .int .i64 (k : Nat) ∧ LdAt w p F M k a' c' L qs wr
def LoadEnd (w : World) (F : List Nat) (M : List Nd) (e : Ending) (w' : World) : Prop :=
  ∃ p a' c' L qs, e = .returned (.tuple #[.pointer (some ⟨p, 0, none⟩), .bool true]) ∧ Pt w' w.heap.size p F a' c' L qs ∧ nds L = M ∧ Frm [] w w'
/-- One node more. -/
theorem LdAt.step {w : World} {p : Nat} {F : List Nat} {M : List Nd} {k : Nat} {a' a8 : Option Addr} {c' c8 : Nat} {L : List Nx} {qs : List Nat} {wr w7 w8 : World} {x : Nx} {q m : Nat} (h : LdAt w p F M k a' c' L qs wr) (hf : Frm [] wr w7) (hq : Whole w7 q 44 x.cells.toArray) (hqw : wr.heap.size ≤ q)
    (hx : NxOk w7 (p :: F) x) (hxn : ∀ y, x.a = some y → wr.heap.size ≤ y.block) (hM : M[k]? = some x.t) (hw : q < w7.heap.size) (hm : m = 1) (happ : AppV w7 w8 w.heap.size 71 (.slice a' k c') k m (qs.map ptr) [ptr q] a8 c8) :
    LdAt w p F M (k + 1) a8 c8 (L ++ [x]) (qs ++ [q]) (w8.setCell ⟨p, 0, none⟩ (.slice a8 (k + 1) c8)) := by
  subst hm
  have hpl := h.tree.lt
  have hblk : ∀ g ∈ blk a', w.heap.size ≤ g ∧ g < wr.heap.size := fun g hg => World.ownsRow.lt h.own g (ownBlk.2 hg)
  have hpb : p ∉ blk a' := fun hm => own_ne h.own h.tree (by decide) (ownBlk.2 hm)
  have hf8 : Frm (blk a') w7 w8 := (Frm.refl _ _).grown happ.grown (fun g hg => .inl (ownBlk.1 hg))
  have hf78 : Frm (blk a') wr w8 := hf.trans hf8 (by simp) (fun g hg => .inl hg)
  have ht8 := hf78.whole h.tree hpb
  have hs : Frm [p] w8 (w8.setCell ⟨p, 0, none⟩ (.slice a8 (k + 1) c8)) := (Frm.refl _ _).setCell (.inl (by simp)) _
  have hpl8 : ∀ g ∈ blk a8, g ∈ blk a' ∨ w7.heap.size ≤ g := by
    intro g hg
    have hg' : (Value.slice a8 (k + 1) c8).ownBlock = some g := ownBlk.2 hg
    rcases happ.place with h1 | h1
    · exact .inl (ownBlk.1 (h1 ▸ hg'))
    · rw [hg'] at h1; cases h1; exact .inr (Nat.le_refl _)
  have hnb : ∀ g ∈ blk a', ∀ r ∈ qs, g ≠ r := fun g hg r hr e => by
    subst e
    obtain ⟨i, hi, rfl⟩ := List.getElem_of_mem hr
    have hwn := h.nat.2 i (by rw [← h.nat.1]; exact hi)
    have e2 : qs.getD i 0 = qs[i] := by simp [hi]
    rw [e2] at hwn
    exact own_ne h.own hwn (by decide) (ownBlk.2 hg)
  have hqb : ∀ g ∈ blk a', g ≠ q := fun g hg e => by have := (hblk g hg).2; omega
  have hnat8 : NdsAt w8 L qs := ⟨h.nat.1, fun i hi => hf8.whole ((h.nat.keep hf).2 i hi) (fun hm => hnb _ hm _ (getD_mem (by rw [h.nat.1]; exact hi)) rfl)⟩
  have hq8 : Whole w8 q 44 x.cells.toArray := hf8.whole hq (fun hm => hqb _ hm rfl)
  have hnatz : NdsAt (w8.setCell ⟨p, 0, none⟩ (.slice a8 (k + 1) c8)) (L ++ [x]) (qs ++ [q]) := by
    have h1 := hnat8.append (NdsAt.one hq8)
    refine ⟨h1.1, fun i hi => hs.whole (h1.2 i hi) (fun hm => ?_)⟩
    rw [List.mem_singleton] at hm
    have hmem := getD_mem (qs := qs ++ [q]) (i := i) (by rw [h1.1]; exact hi)
    rw [hm] at hmem
    rcases List.mem_append.1 hmem with h2 | h2
    · have := h.qp p h2; omega
    · simp at h2; omega
  refine ⟨by simpa using ht8.put 0 (.slice a8 (k + 1) c8), ?_, hnatz, ?_, fun y hy => ?_, fun r hr => ?_, ?_, h.hp, h.out⟩
  · have h1 := happ.own
    rw [show qs.map ptr ++ [ptr q] = (qs ++ [q]).map ptr by simp] at h1
    exact hs.own h1 (fun g hg hm => by
      simp at hm; subst hm
      rcases hpl8 _ (ownBlk.1 hg) with h2 | h2
      · exact hpb h2
      · have := hf.size; omega)
  · rw [List.take_add_one, hM, ← h.nds]; simp [Go.Proofs.Ytchhbmhnjknhaaa.nds]
  · have hF8 : ∀ z ∈ blk a8 ++ (p :: F), z ∈ blk a' ++ (p :: F) ∨ w7.heap.size ≤ z := fun z hz => by
      rcases List.mem_append.1 hz with h1 | h1
      · rcases hpl8 z h1 with h2 | h2
        · exact .inl (by simp [h2])
        · exact .inr h2
      · exact .inl (List.mem_append_right _ h1)
    have hy7 : NxOk w7 (blk a' ++ (p :: F)) y := by
      rcases List.mem_append.1 hy with h1 | h1
      · exact (h.ok y h1).keep hf (by simp) (fun z hz => .inl hz)
      · simp at h1; subst h1
        refine ⟨hx.bytes, fun hne z hz hm => ?_, hx.nil, hx.ver, hx.own, hx.key⟩
        rcases List.mem_append.1 hm with h2 | h2
        · have := (hblk _ h2).2; have := hxn z hz; omega
        · exact hx.away hne z hz h2
    have hy8 : NxOk w8 (blk a8 ++ (p :: F)) y := hy7.keep hf8 (fun z hz => .inl (by simp [hz])) hF8
    exact hy8.keep hs (fun z hz => .inl (by simp at hz; simp [hz])) (fun z hz => .inl hz)
  · rcases List.mem_append.1 hr with h1 | h1
    · exact h.qp r h1
    · simp at h1; omega
  · refine (h.frm.trans hf78 (U := []) (by simp) (fun z hz => .inr (hblk z hz).1)).trans hs (by simp) (fun z hz => ?_)
    simp at hz; subst hz; exact .inr h.hp

set_option maxRecDepth 100000 in
set_option maxHeartbeats 4000000 in
theorem load_any (a : Option Addr) (n c : Nat) (X : List Nx) (F : List Nat) (w : World) (h : NL w F a X) (hn : n = X.length) (hfit : n ≤ 9223372036854775807) (hF : ∀ x ∈ F, x < w.heap.size) :
    Calls Try.prog 23 #[.slice a n c] w fun e w' => (¬ LoadsP (nds X) ∧ e = .returned (.tuple #[.pointer none, .bool false]) ∧ Frm [] w w') ∨ (LoadsP (nds X) ∧ LoadEnd w F (nds X) e w') := by
  have HRT := Lib.hid (right_any a n c X F w h hn hfit)
  have H := Lib.hid h; clear h
  have HN := Lib.hid hn; clear hn
  have HFF := Lib.hid hF; clear hF
  obtain ⟨Q, hQ⟩ : ∃ Q : Ending → World → Prop, Q = fun e w' => (¬ LoadsP (nds X) ∧ e = .returned (.tuple #[.pointer none, .bool false]) ∧ Frm [] w w') ∨ (LoadsP (nds X) ∧ LoadEnd w F (nds X) e w') := ⟨_, rfl⟩
  rw [← hQ]
  have HQ := Lib.hid hQ; clear hQ
  go_enter Try.func23, Try.ntmps23
  go_wp2_with fail
  (with_reducible refine HRT.out.mono ?_)
  rintro e w1 ⟨⟨b, rfl, hb⟩, hf1⟩
  have HF1 := Lib.hid hf1; clear hf1
  cases b
  · have HE : Hid (Q (.returned (.tuple #[.pointer none, .bool false])) w1) := Lib.hid (by rw [HQ.out]; exact .inl ⟨fun h => by simpa using hb.2 h, rfl, HF1.out⟩)
    clear hb
    go_wp2
    exact HE.out
  · have hP : LoadsP (nds X) := hb.1 rfl
    have HP := Lib.hid hP
    have hn256 : n ≤ 256 := by rw [HN.out, ← nds_len']; exact hP.1
    clear hb hP
    have HNEW := Lib.hid (new_any w1 F (fun x hx => Nat.lt_of_lt_of_le (HFF.out x hx) HF1.out.size))
    go_wp2_with fail
    (with_reducible refine HNEW.out.mono ?_)
    rintro e w2 ⟨rfl, hpt, hf2, hz2⟩
    obtain ⟨p, hp⟩ : ∃ p, p = w1.heap.size := ⟨_, rfl⟩
    rw [← hp] at hpt ⊢
    have hfw2 := HF1.out.trans hf2 (U := []) (by simp) (by simp)
    have HST : Hid (LdAt w p F (nds X) 0 none 0 [] [] w2) := Lib.hid ⟨hpt.tree, World.ownsRow_nil _ _ _ _, ⟨rfl, fun i hi => by simp at hi⟩, by simp [nds], NOk.nil _ _, by simp, hfw2, by rw [hp]; exact HF1.out.size, HFF.out⟩
    clear hpt hf2 hz2 hp hfw2 HNEW
    go_wp2
    go_loopw [14] (fun u14 wr => LdRel w p F (nds X) u14 wr) (fun u14 _ => n - (intOf u14).toNat)
    case atStart => exact ⟨0, none, 0, [], [], Nat.zero_le _, rfl, HST.out⟩
    case round =>
      obtain ⟨k, a', c', L, qs, hk, rfl, hat⟩ := hrel
      have HA := Lib.hid hat; clear hat
      rw [nds_len', ← HN.out] at hk
      by_cases hlt : k < n
      · have hkX : k < X.length := by have := HN.out; omega
        obtain ⟨b, off, rfl, p0, p1, p2, p3, ok⟩ := (H.out.keep (F' := F) HA.out.frm (by simp) (fun x h => .inl h)).at hkX
        have hM : (nds X)[k]? = some (X.getD k default).t := by
          rw [← nds_getD]; simp [hkX, nds_len']
        have hlen := (HP.out.2 k (by rw [nds_len']; exact hkX)).1
        rw [nds_getD] at hlen
        obtain ⟨x, hx⟩ : ∃ x, x = X.getD k default := ⟨_, rfl⟩
        rw [← hx] at p0 p1 p2 p3 hM hlen ok
        obtain ⟨⟨xk, xv, xver, xown⟩, xa, xc⟩ := x
        simp only at p0 p1 p2 p3 hM hlen
        obtain ⟨m, hm⟩ : ∃ m, m = xv.length := ⟨_, rfl⟩
        rw [← hm] at p1 hlen
        have hl2 : xk.size ≤ 64 ∧ m ≤ 3840 := by
          unfold lenC at hlen
          split at hlen
          · omega
          · split at hlen <;> omega
        obtain ⟨hxk, hm38⟩ := hl2
        obtain ⟨g, hg⟩ : ∃ g, g = wr.heap.size := ⟨_, rfl⟩
        obtain ⟨w3, hw3⟩ : ∃ w3, w3 = wr.alloc (.cells #[.string xk, .slice xa m xc, .int .u64 (xver : Nat), .int .u64 (xown : Nat)] 44) := ⟨_, rfl⟩
        have hW3 := Whole.made wr 44 #[.string xk, .slice xa m xc, .int .u64 (xver : Nat), .int .u64 (xown : Nat)]
        rw [← hw3, ← hg] at hW3
        have hf3 : Frm [] wr w3 := by rw [hw3]; exact (Frm.refl _ _).alloc _
        have e0 := hW3.cell 0
        have e1 := hW3.cell 1
        have e2 := hW3.cell 2
        have e3 := hW3.cell 3
        simp at e0 e1 e2 e3
        rw [hw3] at e0 e1 e2 e3
        have HAL := Lib.hid (alone_any xk xa m xc xver xown xv w3 (hf3.bytes ok.bytes (by simp)) hm ok.nil (by omega) (by omega))
        have HW3 := Lib.hid hw3
        have HG := Lib.hid hg
        have HF3 := Lib.hid hf3
        have HM := Lib.hid hM
        have HMM := Lib.hid hm
        have OK := Lib.hid ok
        clear hx hM hlen hm hw3 hg hW3 hf3 ok hkX
        go_wp2_with fail
        rw [← HW3.out]
        (with_reducible refine HAL.out.mono ?_)
        rintro e w5 ⟨av, cv, rfl, hbv, hvnil, hvl, hf5⟩
        obtain ⟨q, hq⟩ : ∃ q, q = w5.heap.size := ⟨_, rfl⟩
        obtain ⟨w6, hw6⟩ : ∃ w6, w6 = w5.alloc (.cells #[.string xk, .slice av m cv, .int .u64 (xver : Nat), .int .u64 (xown : Nat)] 44) := ⟨_, rfl⟩
        obtain ⟨w7, hw7⟩ : ∃ w7, w7 = w6.alloc (.cells #[.pointer (some ⟨q, 0, none⟩)] 71) := ⟨_, rfl⟩
        have hW6 := Whole.made w5 44 #[.string xk, .slice av m cv, .int .u64 (xver : Nat), .int .u64 (xown : Nat)]
        rw [← hw6, ← hq] at hW6
        have hf56 : Frm [] w5 w6 := by rw [hw6]; exact (Frm.refl _ _).alloc _
        have hf67 : Frm [] w6 w7 := by rw [hw7]; exact (Frm.refl _ _).alloc _
        have hfr5 := HF3.out.trans hf5 (U := []) (by simp) (by simp)
        have hfr7 := (hfr5.trans hf56 (U := []) (by simp) (by simp)).trans hf67 (U := []) (by simp) (by simp)
        have hq1 : w6.heap.size = q + 1 := by rw [hw6, hq]; simp
        have hvals : ValsAt w7 (some ⟨q + 1, 0, none⟩) [ptr q] := by rw [hw7, ← hq1]; exact ValsAt.one w6 _ _
        have hW7 : Whole w7 q 44 (Nx.cells ⟨⟨xk, xv, xver, xown⟩, av, cv⟩).toArray := by
          have := hf67.whole hW6 (by simp)
          rw [HMM.out] at this; exact this
        have hpl := HA.out.tree.lt
        have hx7 : NxOk w7 (p :: F) ⟨⟨xk, xv, xver, xown⟩, av, cv⟩ := by
          refine ⟨(hf56.trans hf67 (U := []) (by simp) (by simp)).bytes hbv (by simp), fun _ y hy hmem => ?_, hvnil, OK.out.ver, OK.out.own, OK.out.key⟩
          have h1 := hvl y hy
          have h2 := HF3.out.size
          rcases List.mem_cons.1 hmem with h | h
          · omega
          · have := HFF.out _ h; have := HA.out.frm.size; omega
        have hqw : wr.heap.size ≤ q := by rw [hq]; exact hfr5.size
        have hq7 : q < w7.heap.size := hW7.lt
        have hown7 := hfr7.own HA.out.own (by simp)
        have ht6 := ((hfr5.trans hf56 (U := []) (by simp) (by simp)).whole HA.out.tree (by simp)).cell 0
        simp at ht6
        have hxn : ∀ y, av = some y → wr.heap.size ≤ y.block := fun y hy => Nat.le_trans HF3.out.size (hvl y hy)
        have HOWN := Lib.hid hown7
        have HVAL := Lib.hid hvals
        have HSTEP := Lib.hid (fun a8 c8 w8 happ => HA.out.step (x := ⟨⟨xk, xv, xver, xown⟩, av, cv⟩) (m := 1) (a8 := a8) (c8 := c8) (w8 := w8) hfr7 hW7 hqw hx7 hxn HM.out hq7 rfl happ)
        have HFW7 := Lib.hid (HA.out.frm.trans hfr7 (U := []) (by simp) (by simp))
        have HKK := Lib.hid HA.out.k
        have hfit1 : k + 1 ≤ 1000000000 := by omega
        have HFR7 := Lib.hid hfr7
        have HQ5 := Lib.hid hq
        have HW6 := Lib.hid hw6
        have HW7 := Lib.hid hw7
        obtain ⟨i0, hi, hz0, hz1, hz2⟩ := info_parts Try.info71
        have HI := Lib.hid hi; clear hi
        have HZ0 := Lib.hid hz0; clear hz0
        have HZ1 := Lib.hid hz1; clear hz1
        have HZ2 := Lib.hid hz2; clear hz2
        have HBW := Lib.hid HFW7.out.size
        have HONE : Hid (∀ u ∈ [ptr q], u.oneCell' = true) := Lib.hid (fun u hu => by simp at hu; subst hu; rfl)
        rw [hw6] at ht6
        clear hbv hvnil hvl hf5 hq hq1 hw6 hw7 hW6 hf56 hf67 hfr5 hfr7 hvals hW7 hpl hx7 hqw hq7 hown7 hxn HAL
        go_wp2_with (at_builtin; rw [← HW6.out, ← HQ5.out, ← HW7.out]; refine wpList_appV rfl (.tmp 24) (.tmp 25) 63 rfl w.heap.size 71 i0 (.pointer none) 8 Try.underlying63 HI.out HZ0.out rfl HZ1.out HZ2.out (by decide) (.slice a' k c') k _ rfl HOWN.out _ 1 1 _ rfl HVAL.out rfl HONE.out (fun h => by cases h) hfit1 HBW.out ?_)
        intro a8 c8 w8 happ
        have hst := HSTEP.out a8 c8 w8 happ
        have hpb : p ∉ blk a' := fun hm => own_ne HA.out.own HA.out.tree (by decide) (ownBlk.2 hm)
        have hf8 : Frm (blk a') _ w8 := (Frm.refl _ _).grown happ.grown (fun g hg => .inl (ownBlk.1 hg))
        have ht8 := hf8.whole (HFR7.out.whole HA.out.tree (by simp)) hpb
        have t0 := ht8.cell 0
        have f0 := ht8.free 0
        simp at t0
        have HREL : Hid (LdRel w p F (nds X) (.int .i64 ((k + 1 : Nat) : Int)) (w8.setCell ⟨p, 0, none⟩ (.slice a8 (k + 1) c8))) := Lib.hid ⟨k + 1, a8, c8, _, _, by rw [nds_len', ← HN.out]; omega, rfl, hst⟩
        clear happ hst hpb hf8 ht8 HSTEP HOWN HVAL
        go_wp2
        go_roundw
        case rel => exact HREL.out
        case measure => simp [intOf]; omega
      · obtain rfl : k = n := by omega
        have HE : Hid (Q (.returned (.tuple #[.pointer (some ⟨p, 0, none⟩), .bool true])) wr) := Lib.hid (by
          rw [HQ.out]
          refine .inr ⟨HP.out, p, a', c', L, qs, rfl, ?_, ?_, HA.out.frm⟩
          · have hh := HA.out
            obtain ⟨hk1, hk2⟩ := hh.k
            have hblk : ∀ g ∈ blk a', w.heap.size ≤ g ∧ g < wr.heap.size := fun g hg => World.ownsRow.lt hh.own g (ownBlk.2 hg)
            have hpb : p ∉ blk a' := fun hm => own_ne hh.own hh.tree (by decide) (ownBlk.2 hm)
            have hcaps : k ≤ c' ∧ c' ≤ maxLen ∧ (a' = none → c' = 0) := by
              have ho : OwnP wr w.heap.size a' c' (qs.map ptr) := by unfold OwnP; rw [List.length_map, hk1]; exact hh.own
              have := ho.caps
              rwa [List.length_map, hk1] at this
            have hvals := own_vals hh.own
            refine ⟨by rw [hk2]; exact hh.tree, hh.nat.1, hvals, hh.nat.2, fun x hx => (hh.ok x hx).keep (S := []) (Frm.refl _ _) (by simp) (fun z hz => .inl (by simp at hz ⊢; rcases hz with h | h <;> simp [h])), hh.hp, fun hm => by have := hh.out p hm; have := hh.hp; omega, fun _ y hy hm => ?_, fun r hr hm => ?_, by rw [hk2]; omega, by rw [hk2]; exact hcaps.1, hcaps.2.1, hcaps.2.2⟩
            · have hb := hblk y.block (by rw [hy]; simp)
              rcases List.mem_cons.1 hm with h | h
              · exact hpb (by rw [hy]; simp [h])
              · have := hh.out _ h; omega
            · have := hh.qp r hr
              rcases List.mem_cons.1 hm with h | h
              · omega
              · have := hh.out _ h; have := hh.hp; omega
          · rw [HA.out.nds, List.take_of_length_le (by rw [nds_len', ← HN.out]; omega)])
        clear hk
        go_wp2
        exact HE.out
end Go.Proofs.Ytchhbmhnjknhaaa
