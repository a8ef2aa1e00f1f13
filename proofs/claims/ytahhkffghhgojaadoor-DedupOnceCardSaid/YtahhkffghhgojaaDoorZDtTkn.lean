/- (For a door seat.) Contract of taken. -/
import Derived.Test.YtahhkffghhgojaaDoorZDtTaken
import Derived.Deep.DeepCutAuto
namespace Go.Proofs.YtahhkffghhgojaaDoor
open Go.RowKit
set_option maxRecDepth 100000

/-- What taken answers: X is what the bytes are, nothing more behind them, or the fault. -/
def TaknE (w : World) (X : List Ln ⊕ Nat) (e : Ending) (w' : World) : Prop :=
  (∃ out a c, X = .inl out ∧ e = .returned (.tuple #[.slice a out.length c, .int .i64 0]) ∧ LnOwn w' w.heap.size 56 [] a c out ∧ Frm [] w w') ∨
  (∃ k : Nat, X = .inr k ∧ k ≠ 0 ∧ e = .returned (.tuple #[.slice none 0 0, .int .i64 (k : Nat)]) ∧ Frm [] w w')
theorem enters_taken (args : Array Value) (w : World) : (callFunc 26 args).run Tryd.prog w = .ok (.enter 26 args) w := enters_of Tryd.func26 (by kernel_rfl) rfl args w
set_option maxHeartbeats 4000000 in
theorem taken_any {V : List Nat → Bool} (hV : VOk V) (w : World) (a : Option Addr) (n cap : Nat) (l : List Nat) (hl : Bytes w a l) (hn : n = l.length) (hnil : a = none → cap = 0) (hT : Tabs w) (hfit : l.length ≤ 100000) :
    Calls Tryd.prog 12 #[.slice a n cap] w (TaknE w (endTb V l)) := by
  have hmf : ∀ (fn : Fn) (first cap : Array Value) (w : World), (Instr.makeFunc fn first cap).run Tryd.prog w = .ok (.func fn first cap) w := fun _ _ _ _ => rfl
  obtain ⟨q, hq⟩ : ∃ q, q = w.heap.size := ⟨_, rfl⟩
  obtain ⟨w0, hw0⟩ : ∃ w0, w0 = w.alloc (.cells #[.slice none 0 0] 39) := ⟨_, rfl⟩
  have F0 : Hid (Frm [] w w0) := Lib.hid (by rw [hw0]; exact (Frm.refl _ _).alloc _)
  have B0 : Hid (Whole w0 q 39 #[.slice none 0 0]) := Lib.hid (by rw [hw0, hq]; exact Whole.made _ _ _)
  have HL0 := F0.out.bytes hl (by simp)
  have HT0 := hT.keep F0.out (by simp)
  have QW : Hid (w.heap.size ≤ q ∧ q < w0.heap.size) := Lib.hid ⟨Nat.le_of_eq hq.symm, B0.out.lt⟩
  have V0 : Hid (∀ (z : World) (v : Value) (c : Int) (tm : Array Value), tm.getD 2 undef = .pointer (some ⟨q, 0, none⟩) → tm.getD 3 undef = .int .i64 c → Whole z q 39 #[v] → v.oneCell' = true → (results Tryd.f12 tm).run Tryd.prog z = .ok (.tuple #[v, .int .i64 c]) z) := Lib.hid (fun z v c tm h6 h7 hw h1 => by
    have c0 := hw.cell 0
    simp at c0
    have h6' : tm[2]?.getD undef = .pointer (some ⟨q, 0, none⟩) := by simpa using h6
    have h7' : tm[3]?.getD undef = .int .i64 c := by simpa using h7
    simp [results, Tryd.results12, go_sem, c0, h6', h7'])
  obtain ⟨Q, hQ⟩ : ∃ Q, Q = TaknE w (endTb V l) := ⟨_, rfl⟩
  rw [← hQ]
  have HQ := Lib.hid hQ
  have HW0 := Lib.hid hw0
  have HG := Lib.hid hq
  clear hQ hw0 hq hl hT
  rcases hp : pTb V l with ⟨out, l'⟩ | c
  · have RD := Lib.hid (read_ret8 26 #[.pointer (some ⟨q, 0, none⟩)] a n cap l w0 (TkQ w0 q out l') HL0 hn hnil (by omega) enters_taken (fun w1 rb cb db h => bytaken_ret hV h HT0 hfit B0.out hp))
    have ED : Hid (endTb V l = if l' = [] then .inl out else .inr 5) := Lib.hid (by unfold endTb; rw [hp])
    clear hp hV HL0 hn hnil HT0 hfit
    go_enter Tryd.func12, Tryd.ntmps12
    go_wp2_with fail
    rw [← HW0.out, ← HG.out]
    (with_reducible refine RD.out.mono ?_)
    rintro e w' ⟨w2, c, T, rfl, ⟨rest, ⟨rfl, a2, c2, hb2, ho2, hf2⟩, hc⟩, hfT, hTx⟩
    have hqT : q ∉ T := fun hm => by have := (hTx q hm).1; have := QW.out; omega
    have B3 := Lib.hid (hfT.whole hb2 hqT)
    have O3 : Hid (LnOwn w' (w0.heap.size + 2) 56 [] a2 c2 out) := Lib.hid ⟨hfT.own ho2.own (fun g hg hm => by
      have h1 := (ho2.blk_lt g (ownBlk3.1 hg)).1
      have h2 := (hTx g hm).2
      omega), ho2.fits, ho2.away⟩
    have F3 : Hid (Frm [] w w') := Lib.hid (by
      have h1 : Frm [] w w2 := F0.out.trans hf2 (by simp) (fun x hx => by simp at hx; subst hx; exact .inr QW.out.1)
      exact h1.trans hfT (by simp) (fun x hx => .inr (by have h2 := (hTx x hx).1; have h3 := F0.out.size; omega)))
    have x0 := B3.out.cell 0
    have k0 := B3.out.free 0
    simp at x0
    clear hb2 ho2 hf2 hfT hTx hqT
    by_cases hr : rest = []
    · rw [if_pos hr] at hc
      subst hc
      have HE : Hid (Q (.returned (.tuple #[.slice a2 out.length c2, .int .i64 0])) (w'.setCell ⟨q, 0, none⟩ (.slice a2 out.length c2))) := Lib.hid (by
        rw [HQ.out]
        have hfs : Frm [q] w' (w'.setCell ⟨q, 0, none⟩ (.slice a2 out.length c2)) := (Frm.refl _ _).setCell (.inl (by simp)) _
        refine .inl ⟨out, a2, c2, by rw [ED.out, if_pos hr], rfl, ⟨own_low (hfs.own O3.out.own (fun g hg hm => ?_)) (by have := F0.out.size; omega), O3.out.fits, by simp⟩, F3.out.trans hfs (by simp) (fun x hx => by simp at hx; subst hx; exact .inr QW.out.1)⟩
        have h1 := (O3.out.blk_lt g (ownBlk3.1 hg)).1
        have h2 := QW.out
        simp at hm
        omega)
      have DD := Lib.hid (B3.out.put 0 (.slice a2 out.length c2))
      go_wp2
      refine bodyPost_ret (V0.out _ (.slice a2 out.length c2) 0 _ rfl rfl (by simpa using DD.out) rfl) rfl ?_
      exact HE.out
    · rw [if_neg hr] at hc
      subst hc
      have HE : Hid (Q (.returned (.tuple #[.slice none 0 0, .int .i64 5])) (w'.setCell ⟨q, 0, none⟩ (.slice none 0 0))) := Lib.hid (by
        rw [HQ.out]
        refine .inr ⟨5, by rw [ED.out, if_neg hr], by decide, rfl, F3.out.setCell (.inr QW.out.1) _⟩)
      have DD := Lib.hid (B3.out.put 0 (.slice none 0 0))
      go_wp2
      refine bodyPost_ret (V0.out _ (.slice none 0 0) 5 _ rfl rfl (by simpa using DD.out) rfl) rfl ?_
      exact HE.out
  · have RD := Lib.hid (read_throw 26 #[.pointer (some ⟨q, 0, none⟩)] a n cap l w0 (fun w2 => Frm [] w0 w2) c HL0 hn hnil (by omega) enters_taken (fun w1 rb cb db h => bytaken_throw hV h HT0 hfit hp))
    have C0 : Hid (c ≠ 0) := Lib.hid (pTb_ne hp)
    have ED : Hid (endTb V l = .inr c) := Lib.hid (by unfold endTb; rw [hp])
    clear hp hV HL0 hn hnil HT0 hfit
    go_enter Tryd.func12, Tryd.ntmps12
    go_wp2_with fail
    rw [← HW0.out, ← HG.out]
    (with_reducible refine RD.out.mono ?_)
    rintro e w' ⟨w2, c', T, rfl, ⟨hf2, rfl⟩, hfT, hTx⟩
    have hqT : q ∉ T := fun hm => by have := hTx q hm; have := QW.out; omega
    have B3 := Lib.hid (hfT.whole (hf2.whole B0.out (by simp)) hqT)
    have F3 : Hid (Frm [] w w') := Lib.hid (by
      have h1 : Frm [] w w2 := F0.out.trans hf2 (by simp) (by simp)
      exact h1.trans hfT (by simp) (fun x hx => .inr (by have h2 := hTx x hx; have h3 := F0.out.size; omega)))
    have x0 := B3.out.cell 0
    have k0 := B3.out.free 0
    simp at x0
    have hcn : ((c : Int) != 0) = true := by rw [bne_iff_ne]; have := C0.out; omega
    have HE : Hid (Q (.returned (.tuple #[.slice none 0 0, .int .i64 (c : Nat)])) (w'.setCell ⟨q, 0, none⟩ (.slice none 0 0))) := Lib.hid (by
      rw [HQ.out]
      refine .inr ⟨c, ED.out, C0.out, rfl, F3.out.setCell (.inr QW.out.1) _⟩)
    have DD := Lib.hid (B3.out.put 0 (.slice none 0 0))
    clear hf2 hfT hTx hqT
    go_wp2
    refine bodyPost_ret (V0.out _ (.slice none 0 0) c _ rfl rfl (by simpa using DD.out) rfl) rfl ?_
    exact HE.out
end Go.Proofs.YtahhkffghhgojaaDoor
