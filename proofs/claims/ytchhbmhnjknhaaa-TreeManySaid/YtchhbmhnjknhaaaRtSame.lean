/- Contracts of the reference's SameNode and SameNodes, at nodes that are the same. -/
import Derived.Test.YtchhbmhnjknhaaaRtAt
import Derived.WalkSpells
import Derived.Outline
import Derived.Deep.QuietTactic
import Derived.BigQuiet
import Derived.Lib.QuietBelow
namespace Go.Proofs.Ytchhbmhnjknhaaa
open Go.RowKit

/-- A node by value. -/
def Nx.val (x : Nx) : Value := .agg #[.string x.t.k, .slice x.a x.t.v.length x.c, .int .u64 (x.t.ver : Nat), .int .u64 (x.t.own : Nat)]

set_option maxRecDepth 100000 in
set_option maxHeartbeats 1000000 in
theorem sameNode_true (k : ByteArray) (a1 : Option Addr) (n c1 : Nat) (a2 : Option Addr) (c2 ver own : Nat) (l : List Nat) (w : World) (h1 : Bytes w a1 l) (h2 : Bytes w a2 l) (hn : n = l.length) :
    Calls Try.prog 21 #[.agg #[.string k, .slice a1 n c1, .int .u64 (ver : Nat), .int .u64 (own : Nat)], .agg #[.string k, .slice a2 n c2, .int .u64 (ver : Nat), .int .u64 (own : Nat)]] w
      fun e w' => e = .returned (.bool true) ∧ Frm [] w w' := by
  obtain ⟨wA, hA⟩ : ∃ wA, wA = w.alloc (.cells #[.string k, .slice a1 n c1, .int .u64 (ver : Nat), .int .u64 (own : Nat)] 44) := ⟨_, rfl⟩
  obtain ⟨wB, hB⟩ : ∃ wB, wB = wA.alloc (.cells #[.string k, .slice a2 n c2, .int .u64 (ver : Nat), .int .u64 (own : Nat)] 44) := ⟨_, rfl⟩
  have hf : Frm [] w wB := by rw [hB, hA]; exact ((Frm.refl _ _).alloc _).alloc _
  have v1 := run_to_string (P := Try.prog) (src := 30) (dst := 9) (e := 5) Try.underlying30 Try.underlying5 Try.underlying9 (n := n) (c := c1) (hf.bytes h1 (by simp)) hn
  have v2 := run_to_string (P := Try.prog) (src := 30) (dst := 9) (e := 5) Try.underlying30 Try.underlying5 Try.underlying9 (n := n) (c := c2) (hf.bytes h2 (by simp)) hn
  rw [hB, hA] at v1 v2
  have HF := Lib.hid hf
  rw [hB, hA] at HF
  clear hf hA hB h1 h2 hn
  go_enter Try.func21, Try.ntmps21
  go_wp2
  go_ret
  exact ⟨rfl, HF.out⟩

/-- The nodes without where their values lie. -/
def nds (X : List Nx) : List Nd := X.map (·.t)
theorem nds_at {X Y : List Nx} (h : nds X = nds Y) (i : Nat) : (X.getD i default).t = (Y.getD i default).t := by
  have := congrArg (fun l => l[i]?) h
  simp only [nds, List.getElem?_map] at this
  simp only [List.getD]
  cases hX : X[i]? <;> cases hY : Y[i]? <;> rw [hX, hY] at this <;> simp at this ⊢
  exact this
theorem nds_len {X Y : List Nx} (h : nds X = nds Y) : X.length = Y.length := by
  have := congrArg List.length h
  simpa [nds] using this
def TrueF (w : World) (e : Ending) (w' : World) : Prop := e = .returned (.bool true) ∧ Frm [] w w'

set_option maxRecDepth 100000 in
set_option maxHeartbeats 1000000 in
theorem sameNodes_true (a1 a2 : Option Addr) (n c1 c2 : Nat) (X Y : List Nx) (F1 F2 : List Nat) (w : World) (h1 : NL w F1 a1 X) (h2 : NL w F2 a2 Y) (hn : n = X.length) (he : nds X = nds Y) (hfit : n ≤ 9223372036854775807) :
    Calls Try.prog 25 #[.slice a1 n c1, .slice a2 n c2] w (TrueF w) := by
  have H1 := Lib.hid h1; clear h1
  have H2 := Lib.hid h2; clear h2
  have HN := Lib.hid hn
  have HM : Hid (n = Y.length) := by rw [hn]; exact Lib.hid (nds_len he)
  have HE := Lib.hid (fun i => nds_at he i)
  clear hn he
  go_enter Try.func25, Try.ntmps25
  go_wp2
  go_loopw [5] (fun u wr => ∃ k : Nat, k ≤ n ∧ u = .int .i64 (k : Nat) ∧ Frm [] w wr) (fun u _ => n - (intOf u).toNat)
  case atStart => exact ⟨0, Nat.zero_le _, rfl, Frm.refl _ _⟩
  case round =>
    obtain ⟨k, hk, rfl, hf⟩ := hrel
    have HF := Lib.hid hf; clear hf
    by_cases hlt : k < n
    · obtain ⟨b1, o1, rfl, p0, p1, p2, p3, ok1⟩ := (H1.out.keep HF.out (F' := F1) (by simp) (fun x h => .inl h)).at (i := k) (by have := HN.out; omega)
      obtain ⟨b2, o2, rfl, q0, q1, q2, q3, ok2⟩ := (H2.out.keep HF.out (F' := F2) (by simp) (fun x h => .inl h)).at (i := k) (by have := HM.out; omega)
      have hE := HE.out k
      have hb1 := ok1.bytes
      have hb2 := ok2.bytes
      rw [← hE] at q0 q1 q2 q3 hb2
      generalize (X.getD k default) = x at p0 p1 p2 p3 q0 q1 q2 q3 hb1 hb2
      generalize (Y.getD k default).a = ya at q1 hb2
      generalize (Y.getD k default).c = yc at q1
      obtain ⟨⟨xk, xv, xver, xown⟩, xa, xc⟩ := x
      simp only at p0 p1 p2 p3 q0 q1 q2 q3 hb1 hb2
      obtain ⟨m, hm⟩ : ∃ m, m = xv.length := ⟨_, rfl⟩
      rw [← hm] at p1 q1
      have SN := Lib.hid (fun (z : World) (hz : Frm [] wr z) => sameNode_true xk xa m xc ya yc xver xown xv z (hz.bytes hb1 (by simp)) (hz.bytes hb2 (by simp)) hm)
      have SQ := Lib.hid (fun (d : Nat) (os : Array Obj) => Calls.regrown_of (w := wr) (d := d) (os := os) ((SN.out _ (Frm.ofBelow (below_regrown wr d os))).mono fun _ _ h => ⟨h.1, h.2.below (by simp) (Nat.le_refl _)⟩))
      have k1 := cell_regrown p0
      have k2 := cell_regrown p1
      have k3 := cell_regrown p2
      have k4 := cell_regrown p3
      have l1 := cell_regrown q0
      have l2 := cell_regrown q1
      have l3 := cell_regrown q2
      have l4 := cell_regrown q3
      clear hE hb1 hb2 ok1 ok2 hm p0 p1 p2 p3 q0 q1 q2 q3
      go_wp2
      refine wp_region_quiet_below (by kernel_rfl) (by kernel_rfl) ?_
      repeat (go_big_quiet_step (with_reducible exact SQ.out _ _))
      refine wpQuiet_nil ?_
      intro _ hw'
      obtain ⟨⟨dq, osq⟩, hw''⟩ := hw'
      subst hw''
      have HG := Lib.hid (HF.out.trans (Frm.ofBelow (below_regrown wr dq osq)) (U := []) (by simp) (by simp))
      clear k1 k2 k3 k4 l1 l2 l3 l4
      go_wp2
      go_round
      case rel => exact ⟨k + 1, by omega, by go_num, HG.out⟩
      case measure => simp [intOf]; omega
    · go_wp2
      go_ret
      exact ⟨rfl, HF.out⟩
end Go.Proofs.Ytchhbmhnjknhaaa
