/- Contract of the document's Record: the state's own record. -/
import Derived.Test.YtomgiockelhfiaaGreatMX
import Derived.Test.YtomgiockelhfiaaGreatZRdRecC
import Derived.Test.YtomgiockelhfiaaGreatZDsSays
namespace Go.Proofs.YtomgiockelhfiaaGreat
open Go.RowKit
set_option maxRecDepth 100000
/-- A record in the making, behind a world w6: its row lies in G or is newer. -/
structure Rv (w0 w6 : World) (G : List Nat) (z : World) (a : Option Addr) (cap : Nat) (l : List Nat) : Prop where
  own : z.ownsRow w0.heap.size 5 1 (.slice a l.length cap) l.length (l.map u8v)
  frm : Frm G w6 z
  pos : ∀ x ∈ ob a, x ∈ G ∨ w6.heap.size ≤ x
  old : w0.heap.size ≤ w6.heap.size
theorem Rv.keep {w0 w6 z z' : World} {G : List Nat} {a : Option Addr} {cap : Nat} {l : List Nat} (h : Rv w0 w6 G z a cap l) (hf : Frm [] z z') : Rv w0 w6 G z' a cap l :=
  ⟨hf.own h.own (fun _ _ hm => by simp at hm), h.frm.trans hf (fun _ h => h) (by simp), h.pos, h.old⟩
theorem Rv.lt {w0 w6 z : World} {G : List Nat} {a : Option Addr} {cap : Nat} {l : List Nat} (h : Rv w0 w6 G z a cap l) : ∀ x ∈ ob a, x < z.heap.size := fun x hx => (World.ownsRow.lt h.own x (ob_some.2 hx)).2
def RvE (w0 w6 : World) (G l : List Nat) (e : Ending) (z' : World) : Prop := ∃ a' n' cap', Hid (n' = l.length) ∧ e = .returned (.slice a' n' cap') ∧ Hid (Rv w0 w6 G z' a' cap' l)
theorem Rv.of {w0 w6 z z' : World} {G : List Nat} {a : Option Addr} {cap : Nat} {l b : List Nat} {e : Ending} (h : Rv w0 w6 G z a cap l) (hp : RPut z w0.heap.size a l b e z') : RvE w0 w6 G (l ++ b) e z' := by
  obtain ⟨a', cap', he, ho, hf, hn⟩ := hp
  have hs := h.frm.size
  exact ⟨a', _, cap', Lib.hid rfl, he, Lib.hid ⟨ho, h.frm.trans hf (fun _ h => h) (fun x hx => h.pos x hx), fun x hx => by
    rcases hn x hx with h1 | h1
    · exact h.pos x h1
    · omega, h.old⟩⟩
theorem rv_put {w0 w6 z : World} {G : List Nat} {a : Option Addr} {n0 cap : Nat} {l : List Nat} (n k : Nat) (i : Int) (hi : i = (k : Nat)) (h : Rv w0 w6 G z a cap l) (h0 : n0 = l.length) (hn : n < 18446744073709551616) (hk : k ≤ 8) (hfit : l.length ≤ 100000000) :
    Calls Tryz.prog 57 #[.slice a n0 cap, .int .u64 n, .int .i64 i] z (RvE w0 w6 G (l ++ be k n)) := by
  subst h0; subst hi
  exact (ref_put_any w0.heap.size a cap l n k z h.own (Nat.le_trans h.old h.frm.size) hn hk (by omega)).mono fun _ _ hp => h.of hp
theorem rv_bytes {w0 w6 z : World} {G : List Nat} {a : Option Addr} {n0 cap : Nat} {l : List Nat} (ca : Option Addr) (cn ccap : Nat) (c : List Nat) (h : Rv w0 w6 G z a cap l) (h0 : n0 = l.length) (hc : Bytes z ca c) (hca : c ≠ [] → ∀ x, ca = some x → x.block ∉ ob a) (hcn : cn = c.length) (hnil : ca = none → ccap = 0) (hfit : l.length ≤ 100000000) (hfit2 : cn ≤ 100000000) :
    Calls Tryz.prog 58 #[.slice a n0 cap, .slice ca cn ccap] z (RvE w0 w6 G (l ++ cb c)) := by
  subst h0
  have e : cb c = be 4 cn ++ c := by unfold cb; rw [hcn]
  rw [e]
  exact (ref_putbytes_any w0.heap.size a cap l ca cn ccap c z h.own (Nat.le_trans h.old h.frm.size) hc hca hcn hnil (by omega)).mono fun _ _ hp => h.of hp
theorem rv_text {w0 w6 z : World} {G : List Nat} {a : Option Addr} {n0 cap n cp : Nat} {l : List Nat} (s : ByteArray) (h : Rv w0 w6 G z a cap l) (h0 : n0 = l.length) (hn : n = s.size) (hs : s.size ≤ 5000) (hfit : l.length ≤ 100000000) :
    Calls Tryz.prog 58 #[.slice a n0 cap, .slice (some ⟨z.heap.size, 0, none⟩) n cp] (Lib.bytesWorld z 5 s) (RvE w0 w6 G (l ++ cb (strL s))) := by
  subst hn
  refine rv_bytes _ _ _ (strL s) (h.keep (conv_frm z 5 s)) h0 (conv_bytes z 5 s (by omega)) ?_ (strL_length s).symm (by simp) hfit (by omega)
  intro _ x hx hm
  cases hx
  have := h.lt _ hm
  simp at this
theorem Ds.more {w w0 : World} {B q : Nat} {F F' : List Nat} {S : MS} (h : Ds w B q F S) (hf : Frm [] w w0) (hF : ∀ x ∈ F', x ∈ F ∨ w.heap.size ≤ x) : Ds w0 B q F' S := by
  obtain ⟨a, c, X, ht, ha⟩ := h.tree
  obtain ⟨a2, c2, hb⟩ := h.book
  have hc : ∀ x ∈ q :: F', x ∈ q :: F ∨ w.heap.size ≤ x := fun x hx => by
    rcases List.mem_cons.1 hx with rfl | hx
    · exact .inl (by simp)
    · exact (hF x hx).imp (fun h => by simp [h]) (fun h => h)
  have ho : q ∉ F' := fun hm => by
    rcases hF q hm with h1 | h1
    · exact h.out h1
    · have := h.plt; omega
  exact ⟨(hf.cell (p := ⟨q, 0, none⟩) h.plt (by simp)).trans h.n0, ⟨a, c, X, ⟨(hf.cell (p := ⟨q, 1, none⟩) h.plt (by simp)).trans ht.c0, fun j => (hf.frozen (p := ⟨q, j, none⟩) h.plt (by simp)).trans (ht.free j), ht.row.keep hf (by simp) hc, ht.hp, ho, ht.few⟩, ha⟩, a2, c2, ⟨(hf.cell (p := ⟨q, 2, none⟩) h.plt (by simp)).trans hb.c0, (hf.cell (p := ⟨q, 3, none⟩) h.plt (by simp)).trans hb.c1, fun j => (hf.frozen (p := ⟨q, j, none⟩) h.plt (by simp)).trans (hb.free j), hb.row.keep hf (by simp) hc, hb.hp, ho, hb.few, hb.lt⟩⟩
theorem Rw.rv {w0 z : World} {a : Option Addr} {cap : Nat} {l : List Nat} (h : Rw w0 z a cap l) : Rv w0 z (ob a) z a cap l := ⟨h.own, Frm.refl _ _, fun _ hx => .inl hx, h.frm.size⟩
theorem Rv.rw {w0 w6 z : World} {G : List Nat} {a : Option Addr} {cap : Nat} {l : List Nat} (h : Rv w0 w6 G z a cap l) (hf : Frm [] w0 w6) (hG : ∀ x ∈ G, w0.heap.size ≤ x) : Rw w0 z a cap l :=
  ⟨h.own, hf.trans h.frm (by simp) (fun x hx => .inr (hG x hx)), fun x hx => (h.pos x hx).elim (hG x) (fun h1 => Nat.le_trans h.old h1)⟩
/-- What holds at the loops' heads: so many sessions, so many nodes are put. -/
def RrRel (w0 : World) (m : Nat) (l : Nat → List Nat) (s5 s6 : Value) (wr : World) : Prop :=
  ∃ (k : Nat) (a : Option Addr) (n c : Nat), k ≤ m ∧ s5 = .slice a n c ∧ s6 = .int .i64 (k : Nat) ∧ Hid (n = (l k).length) ∧ Hid (Rw w0 wr a c (l k))
def RrRel2 (w0 w6 : World) (G : List Nat) (m : Nat) (l : Nat → List Nat) (s5 s9 : Value) (wr : World) : Prop :=
  ∃ (k : Nat) (a : Option Addr) (n c : Nat), k ≤ m ∧ s5 = .slice a n c ∧ s9 = .int .i64 (k : Nat) ∧ Hid (n = (l k).length) ∧ Hid (Rv w0 w6 G wr a c (l k))
set_option maxHeartbeats 8000000 in
theorem rrec_snap {w : World} {B q : Nat} {F : List Nat} {S : MS} (c : MC) (a : Option Addr) (cap : Nat) (h : Ds w B q F S) (hM : MOk S) (hF : ∀ x ∈ F, x < w.heap.size) (hk : c.kind = 7) :
    Calls Tryz.prog 20 #[.pointer (some ⟨q, 0, none⟩), cmdV c a cap] w (RwE w (recB S c)) := by
  obtain ⟨w0, hw0⟩ : ∃ w0, w0 = w.alloc (.cells (cmdC c a cap) 51) := ⟨_, rfl⟩
  obtain ⟨g, hg⟩ : ∃ g, g = w.heap.size := ⟨_, rfl⟩
  obtain ⟨hW, hf0⟩ := cmd_at hw0 hg
  have h0 : Ds w0 B q F S := h.keep hf0 (by simp) (by simp)
  have hF0 : ∀ x ∈ F, x < w0.heap.size := fun x hx => Nat.lt_of_lt_of_le (hF x hx) hf0.size
  obtain ⟨ba, bc, hbk⟩ := h0.book
  have HST := Lib.hid (fun (z : World) (hz : Frm [] w0 z) => (show z.cell? ⟨q, 0, none⟩ = some (.int .u64 (S.now : Nat)) ∧ z.cell? ⟨q, 2, none⟩ = some (.int .u64 (S.last : Nat)) ∧ z.cell? ⟨q, 3, none⟩ = some (.slice ba S.ses.length bc) from ⟨(hz.cell (p := ⟨q, 0, none⟩) h0.plt (by simp)).trans h0.n0, (hz.cell (p := ⟨q, 2, none⟩) h0.plt (by simp)).trans hbk.c0, (hz.cell (p := ⟨q, 3, none⟩) h0.plt (by simp)).trans hbk.c1⟩))
  have HSL := Lib.hid (fun (z : World) (hz : Frm [] w0 z) => (hbk.row.sl.keep (F' := []) hz (by simp) (by simp)))
  obtain ⟨m, hm⟩ : ∃ m, m = S.ses.length := ⟨_, rfl⟩
  have hm16 : m ≤ 16 := by rw [hm]; exact hbk.few
  rw [← hm] at HST
  have HMM := Lib.hid hm
  have HD0 := Lib.hid h0
  have HFF := Lib.hid hF0
  have HF0 := Lib.hid hf0
  have HM := Lib.hid hM
  have HW := Lib.hid hw0
  have HG := Lib.hid hg
  have HK := Lib.hid hk
  obtain ⟨Q, hQ⟩ : ∃ Q, Q = RwE w (recB S c) := ⟨_, rfl⟩
  have HQ := Lib.hid hQ
  rw [← hQ]
  have E0 : w0.cell? ⟨g, 0, none⟩ = some (.int .u8 (c.kind : Nat)) := hW.cell 0
  rw [hk] at E0
  rw [show ((7 : Nat) : Int) = 7 from rfl] at E0
  rw [show cmdV c a cap = .agg #[.int .u8 (c.kind : Nat), .string c.key, .slice a c.val.length cap, .int .u64 (c.want : Nat), .int .u64 (c.ses : Nat), .int .u64 (c.ticks : Nat)] from rfl]
  rw [show cmdC c a cap = #[.int .u8 (c.kind : Nat), .string c.key, .slice a c.val.length cap, .int .u64 (c.want : Nat), .int .u64 (c.ses : Nat), .int .u64 (c.ticks : Nat)] from rfl] at HW
  rw [hk] at HW ⊢
  rw [show ((7 : Nat) : Int) = 7 from rfl] at HW ⊢
  have E0' := E0
  rw [HW.out, HG.out] at E0'
  have EK : ∀ z, Frm [] w0 z → z.cell? ⟨g, 0, none⟩ = some (.int .u8 7) := fun z hz => (hz.cell (p := ⟨g, 0, none⟩) hW.lt (by simp)).trans E0
  have HEK := Lib.hid EK
  have en : IntKind.u64.wrap (m : Int) = (m : Int) := by simp [IntKind.wrap, IntKind.bits, IntKind.signed]; omega
  have en2 : (m : Int) % 18446744073709551616 = (m : Int) := by omega
  clear h hM hF hk hW hf0 h0 hF0 hQ hw0 hg E0 hbk hm EK
  go_enter Tryz.func20, Tryz.ntmps20
  go_wp2_with fail
  rw [← HW.out, ← HG.out]
  (refine (re_put (n0 := 0) 7 1 1 rfl (Rw.start w0) rfl (by omega) (by omega) (by simp)).mono ?_)
  rintro e w1 ⟨a1, n1, c1, L1, rfl, R1⟩
  have S1 : Frm [] w0 w1 := R1.out.frm
  have d0 := HEK.out _ S1
  clear E0'
  go_wp2
  clear d0
  have E1 : ∀ y, Frm [] w0 y → y.cell? ⟨q, 0, none⟩ = some (.int .u64 (S.now : Nat)) := fun y hy => (HST.out y hy).1
  have E2 : ∀ y, Frm [] w0 y → y.cell? ⟨q, 2, none⟩ = some (.int .u64 (S.last : Nat)) := fun y hy => (HST.out y hy).2.1
  refine wp_region_held_drew (S := fun w' => Frm [] w0 w') (by kernel_rfl) (Frm.drew S1) (fun hHeld => ?_)
  refine wpAnyH_take (i := 0) (oi := ⟨some 35, _, _, _, _, _⟩) (v := ?_) rfl (by kernel_rfl) (by kernel_rfl) (by kernel_rfl) (fun _ _ _ h => h) (Or.inl ⟨by rfl, ?_⟩) (by assumption) ?_
  rotate_left 1
  · (intro w hSw; (try dsimp only at hSw); go_simp; all_goals with_reducible rfl)
  try simp only [Act.put, List.setIfInBounds_toArray, List.set_cons_zero, List.set_cons_succ]
  refine wpAnyH_take (i := 1) (oi := ⟨some 36, _, _, _, _, _⟩) (v := ?_) rfl (by kernel_rfl) (by kernel_rfl) (by kernel_rfl) (fun _ _ _ h => h) (Or.inl ⟨by rfl, ?_⟩) (by assumption) ?_
  rotate_left 1
  · (intro w hSw; (try dsimp only at hSw); go_simp; all_goals with_reducible rfl)
  try simp only [Act.put, List.setIfInBounds_toArray, List.set_cons_zero, List.set_cons_succ]
  refine wpAnyH_take (i := 2) (oi := ⟨some 37, _, _, _, _, _⟩) (v := ?_) rfl (by kernel_rfl) (by kernel_rfl) (by kernel_rfl) (fun _ _ _ h => h) (Or.inl ⟨by rfl, ?_⟩) (by assumption) ?_
  rotate_left 1
  · (intro w hSw; (try dsimp only at hSw); go_simp; all_goals with_reducible rfl)
  try simp only [Act.put, List.setIfInBounds_toArray, List.set_cons_zero, List.set_cons_succ]
  refine wpAnyH_take (i := 3) (oi := ⟨some 38, _, _, _, _, _⟩) (v := ?_) rfl (by kernel_rfl) (by kernel_rfl) (by kernel_rfl) (fun _ _ _ h => h) (Or.inl ⟨by rfl, ?_⟩) (by assumption) ?_
  rotate_left 1
  · (intro w hSw; (try dsimp only at hSw); go_simp; all_goals with_reducible rfl)
  try simp only [Act.put, List.setIfInBounds_toArray, List.set_cons_zero, List.set_cons_succ]
  refine wpAnyH_take (i := 4) (oi := ⟨some 39, _, _, _, _, _⟩) (v := ?_) rfl (by kernel_rfl) (by kernel_rfl) (by kernel_rfl) (fun _ _ _ h => h) (Or.inl ⟨by rfl, ?_⟩) (by assumption) ?_
  rotate_left 1
  · (intro w hSw; (try dsimp only at hSw); go_simp; all_goals with_reducible rfl)
  try simp only [Act.put, List.setIfInBounds_toArray, List.set_cons_zero, List.set_cons_succ]
  refine wpAnyH_take (i := 6) (oi := ⟨some 41, _, _, _, _, _⟩) (v := ?_) rfl (by kernel_rfl) (by kernel_rfl) (by kernel_rfl) (fun _ _ _ h => h) (Or.inl ⟨by rfl, ?_⟩) (by assumption) ?_
  rotate_left 1
  · (intro w hSw; (try dsimp only at hSw); go_simp; all_goals with_reducible rfl)
  try simp only [Act.put, List.setIfInBounds_toArray, List.set_cons_zero, List.set_cons_succ]
  refine wpAnyH_take (i := 7) (oi := ⟨some 42, _, _, _, _, _⟩) (v := ?_) rfl (by kernel_rfl) (by kernel_rfl) (by kernel_rfl) (fun _ _ _ h => h) (Or.inl ⟨by rfl, ?_⟩) (by assumption) ?_
  rotate_left 1
  · (intro w hSw; (try dsimp only at hSw); go_simp; all_goals with_reducible rfl)
  try simp only [Act.put, List.setIfInBounds_toArray, List.set_cons_zero, List.set_cons_succ]
  refine wpAnyH_take (i := 8) (oi := ⟨some 43, _, _, _, _, _⟩) (v := ?_) rfl (by kernel_rfl) (by kernel_rfl) (by kernel_rfl) (fun _ _ _ h => h) (Or.inl ⟨by rfl, ?_⟩) (by assumption) ?_
  rotate_left 1
  · (intro w hSw; (try dsimp only at hSw); go_simp; all_goals with_reducible rfl)
  try simp only [Act.put, List.setIfInBounds_toArray, List.set_cons_zero, List.set_cons_succ]
  refine wpAnyH_take (i := 9) (oi := ⟨some 44, _, _, _, _, _⟩) (v := ?_) rfl (by kernel_rfl) (by kernel_rfl) (by kernel_rfl) (fun _ _ _ h => h) (Or.inl ⟨by rfl, ?_⟩) (by assumption) ?_
  rotate_left 1
  · (intro w hSw; (try dsimp only at hSw); go_simp; all_goals with_reducible rfl)
  try simp only [Act.put, List.setIfInBounds_toArray, List.set_cons_zero, List.set_cons_succ]
  refine wpAnyH_take (i := 10) (oi := ⟨some 45, _, _, _, _, _⟩) (v := ?_) rfl (by kernel_rfl) (by kernel_rfl) (by kernel_rfl) (fun _ _ _ h => h) (Or.inl ⟨by rfl, ?_⟩) (by assumption) ?_
  rotate_left 1
  · (intro w hSw; (try dsimp only at hSw); go_simp; all_goals with_reducible rfl)
  try simp only [Act.put, List.setIfInBounds_toArray, List.set_cons_zero, List.set_cons_succ]
  refine wpAnyH_ready (rs := [5]) (by kernel_rfl) (by simp) ?_
  refine AllReadyH.cons (o := ⟨some 40, _, _, _, _, _⟩) rfl (fun K hK => ?_) AllReadyH.nil
  go_simp
  (go_at_call 57; (refine (re_put (z := w1.drew) (S.now) 8 8 rfl (R1.out.keep (Frm.refl _ _).drew) L1.out (by have := HM.out.now; omega) (by omega) (by simp [be_length])).mono ?_); rintro e w2 ⟨a2, n2, c2, L2, rfl, R2⟩; have S2 : Frm [] w0 w2 := R2.out.frm)
  go_wp2_with fail
  refine hK.out _ _ (by assumption) (fun hHeld => ?_)
  clear hK K
  try simp only [Act.put, List.setIfInBounds_toArray, List.set_cons_zero, List.set_cons_succ]
  refine wpAnyH_ready (rs := [11]) (by kernel_rfl) (by simp) ?_
  refine AllReadyH.cons (o := ⟨some 46, _, _, _, _, _⟩) rfl (fun K hK => ?_) AllReadyH.nil
  go_simp
  (go_at_call 57; (with_reducible refine (re_put (S.last) 8 8 rfl R2.out L2.out HM.out.lt (by omega) (by simp [be_length])).mono ?_); rintro e w3 ⟨a3, n3, c3, L3, rfl, R3⟩; have S3 : Frm [] w0 w3 := R3.out.frm)
  go_wp2_with fail
  refine hK.out _ _ (by assumption) (fun hHeld => ?_)
  clear hK K
  try simp only [Act.put, List.setIfInBounds_toArray, List.set_cons_zero, List.set_cons_succ]
  refine wpAnyH_take (i := 12) (oi := ⟨some 5, _, _, _, _, _⟩) (v := ?_) rfl (by kernel_rfl) (by kernel_rfl) (by kernel_rfl) (fun _ _ _ h => h) (Or.inl ⟨by rfl, ?_⟩) (by assumption) ?_
  rotate_left 1
  · (intro w hSw; (try dsimp only at hSw); go_simp; all_goals with_reducible rfl)
  try simp only [Act.put, List.setIfInBounds_toArray, List.set_cons_zero, List.set_cons_succ]
  refine wpAnyH_done (by kernel_rfl) ?_ _
  clear E1 E2
  have d3 := (HST.out _ S3).2.2
  go_wp2_with fail
  (with_reducible refine (re_put m 2 2 rfl R3.out L3.out (by omega) (by omega) (by simp [be_length])).mono ?_)
  rintro e w4 ⟨a4, n4, c4, L4, rfl, R4⟩
  clear d3 R1 R2 R3 L1 L2 L3
  obtain ⟨l, hl⟩ : ∃ l : Nat → List Nat, l = fun k => be 1 7 ++ (be 8 S.now ++ be 8 S.last ++ be 2 m ++ (S.ses.take k).flatMap encX) := ⟨_, rfl⟩
  have HL := Lib.hid hl
  have hlen : ∀ k, k ≤ m → (l k).length = 19 + 24 * k := by
    intro k
    rw [hl]
    induction k with
    | zero => intro _; simp [be_length]
    | succ k ih =>
      intro hk
      have := ih (by omega)
      simp only [List.length_append] at this ⊢
      rw [flat_take encX S.ses (by have := HMM.out; omega), List.length_append]
      have : (encX (S.ses.getD k default)).length = 24 := by simp [encX, be_length]
      omega
  have HLEN := Lib.hid hlen
  have e40 : [] ++ be 1 7 ++ be 8 S.now ++ be 8 S.last ++ be 2 m = l 0 := by rw [hl]; simp
  have L40 : Hid (n4 = (l 0).length) := Lib.hid (by rw [← e40]; exact L4.out)
  have R40 : Hid (Rw w0 w4 a4 c4 (l 0)) := Lib.hid (by rw [← e40]; exact R4.out)
  clear hl hlen L4 R4 e40
  go_wp2
  go_loopw [5, 6] (fun s5 s6 wr => RrRel w0 m l s5 s6 wr) (fun _ s6 _ => m - (intOf s6).toNat)
  case atStart => exact ⟨0, a4, n4, c4, Nat.zero_le _, rfl, rfl, L40, R40⟩
  case round =>
    clear L40 R40
    obtain ⟨k, ar, nr, cr, hk, rfl, rfl, LK, RK⟩ := hrel
    have SK : Frm [] w0 wr := RK.out.frm
    have d3 := (HST.out _ SK).2.2
    by_cases hlt : k < m
    · have hkX : k < S.ses.length := by have := HMM.out; omega
      obtain ⟨b, off, e, p0, p1, p2, hxf⟩ := (HSL.out _ SK).at hkX
      have HNX : Hid (l (k + 1) = l k ++ be 8 (S.ses.getD k default).id ++ be 8 (S.ses.getD k default).ends ++ be 8 (S.ses.getD k default).life) := Lib.hid (by rw [HL.out]; simp only; rw [flat_take encX S.ses hkX]; simp only [List.append_assoc, encX])
      obtain ⟨x, hx⟩ : ∃ x, x = S.ses.getD k default := ⟨_, rfl⟩
      rw [← hx] at p0 p1 p2 hxf HNX
      obtain ⟨x1, x2, x3⟩ := x
      simp only at p0 p1 p2 HNX
      obtain ⟨hx1, hx2, hx3⟩ := hxf
      simp only at hx1 hx2 hx3
      rw [e] at d3
      clear hx e hkX
      have W5 : ∃ x, x = wr.alloc (.cells #[.int .u64 (x1 : Nat), .int .u64 (x2 : Nat), .int .u64 (x3 : Nat)] 132) := ⟨_, rfl⟩
      obtain ⟨w5, hw5⟩ := W5
      obtain ⟨gx, hgx⟩ : ∃ gx, gx = wr.heap.size := ⟨_, rfl⟩
      have hW5 := Whole.made wr 132 #[.int .u64 (x1 : Nat), .int .u64 (x2 : Nat), .int .u64 (x3 : Nat)]
      rw [← hw5, ← hgx] at hW5
      have hf5 : Frm [] wr w5 := by rw [hw5]; exact (Frm.refl _ _).alloc _
      have hlo : ∀ x ∈ ob ar, w0.heap.size ≤ x := RK.out.new
      have hgo : gx ∉ ob ar := fun hm => by have := RK.out.lt _ hm; omega
      have R5 := Lib.hid (RK.out.keep hf5).rv
      have L5 : Hid (nr = (l k).length) := LK
      have S5 : Frm (ob ar) w5 w5 := Frm.refl _ _
      have F0 : ∀ y, Frm (ob ar) w5 y → y.cell? ⟨gx, 0, none⟩ = some (.int .u64 (x1 : Nat)) := fun y hy => (hy.whole hW5 hgo).cell 0
      have F1 : ∀ y, Frm (ob ar) w5 y → y.cell? ⟨gx, 1, none⟩ = some (.int .u64 (x2 : Nat)) := fun y hy => (hy.whole hW5 hgo).cell 1
      have F2 : ∀ y, Frm (ob ar) w5 y → y.cell? ⟨gx, 2, none⟩ = some (.int .u64 (x3 : Nat)) := fun y hy => (hy.whole hW5 hgo).cell 2
      have HLK : Hid ((l k).length ≤ 1000) := Lib.hid (by rw [HLEN.out k hk]; omega)
      have HF5 := Lib.hid (SK.trans hf5 (U := []) (by simp) (by simp))
      have HLO := Lib.hid hlo
      have HW5 := Lib.hid hw5
      have HGX := Lib.hid hgx
      clear hw5 hgx hW5 hgo hlo SK hf5 LK RK
      go_wp2
      rw [← HW5.out, ← HGX.out]
      refine wp_region_held_drew (S := fun w' => Frm (ob ar) w5 w') (by kernel_rfl) (Frm.drew S5) (fun hHeld => ?_)
      refine wpAnyH_take (i := 0) (oi := ⟨some 74, _, _, _, _, _⟩) (v := ?_) rfl (by kernel_rfl) (by kernel_rfl) (by kernel_rfl) (fun _ _ _ h => h) (Or.inl ⟨by rfl, ?_⟩) (by assumption) ?_
      rotate_left 1
      · (intro w hSw; (try dsimp only at hSw); go_simp; all_goals with_reducible rfl)
      try simp only [Act.put, List.setIfInBounds_toArray, List.set_cons_zero, List.set_cons_succ]
      refine wpAnyH_take (i := 1) (oi := ⟨some 75, _, _, _, _, _⟩) (v := ?_) rfl (by kernel_rfl) (by kernel_rfl) (by kernel_rfl) (fun _ _ _ h => h) (Or.inl ⟨by rfl, ?_⟩) (by assumption) ?_
      rotate_left 1
      · (intro w hSw; (try dsimp only at hSw); go_simp; all_goals with_reducible rfl)
      try simp only [Act.put, List.setIfInBounds_toArray, List.set_cons_zero, List.set_cons_succ]
      refine wpAnyH_take (i := 2) (oi := ⟨some 76, _, _, _, _, _⟩) (v := ?_) rfl (by kernel_rfl) (by kernel_rfl) (by kernel_rfl) (fun _ _ _ h => h) (Or.inl ⟨by rfl, ?_⟩) (by assumption) ?_
      rotate_left 1
      · (intro w hSw; (try dsimp only at hSw); go_simp; all_goals with_reducible rfl)
      try simp only [Act.put, List.setIfInBounds_toArray, List.set_cons_zero, List.set_cons_succ]
      refine wpAnyH_take (i := 4) (oi := ⟨some 78, _, _, _, _, _⟩) (v := ?_) rfl (by kernel_rfl) (by kernel_rfl) (by kernel_rfl) (fun _ _ _ h => h) (Or.inl ⟨by rfl, ?_⟩) (by assumption) ?_
      rotate_left 1
      · (intro w hSw; (try dsimp only at hSw); go_simp; all_goals with_reducible rfl)
      try simp only [Act.put, List.setIfInBounds_toArray, List.set_cons_zero, List.set_cons_succ]
      refine wpAnyH_take (i := 5) (oi := ⟨some 79, _, _, _, _, _⟩) (v := ?_) rfl (by kernel_rfl) (by kernel_rfl) (by kernel_rfl) (fun _ _ _ h => h) (Or.inl ⟨by rfl, ?_⟩) (by assumption) ?_
      rotate_left 1
      · (intro w hSw; (try dsimp only at hSw); go_simp; all_goals with_reducible rfl)
      try simp only [Act.put, List.setIfInBounds_toArray, List.set_cons_zero, List.set_cons_succ]
      refine wpAnyH_take (i := 7) (oi := ⟨some 81, _, _, _, _, _⟩) (v := ?_) rfl (by kernel_rfl) (by kernel_rfl) (by kernel_rfl) (fun _ _ _ h => h) (Or.inl ⟨by rfl, ?_⟩) (by assumption) ?_
      rotate_left 1
      · (intro w hSw; (try dsimp only at hSw); go_simp; all_goals with_reducible rfl)
      try simp only [Act.put, List.setIfInBounds_toArray, List.set_cons_zero, List.set_cons_succ]
      refine wpAnyH_take (i := 8) (oi := ⟨some 82, _, _, _, _, _⟩) (v := ?_) rfl (by kernel_rfl) (by kernel_rfl) (by kernel_rfl) (fun _ _ _ h => h) (Or.inl ⟨by rfl, ?_⟩) (by assumption) ?_
      rotate_left 1
      · (intro w hSw; (try dsimp only at hSw); go_simp; all_goals with_reducible rfl)
      try simp only [Act.put, List.setIfInBounds_toArray, List.set_cons_zero, List.set_cons_succ]
      refine wpAnyH_ready (rs := [3]) (by kernel_rfl) (by simp) ?_
      refine AllReadyH.cons (o := ⟨some 77, _, _, _, _, _⟩) rfl (fun K hK => ?_) AllReadyH.nil
      go_simp
      (go_at_call 57; (refine (rv_put (z := w5.drew) (x1) 8 8 rfl (R5.out.keep (Frm.refl _ _).drew) L5.out hx1 (by omega) (by have := HLK.out; (try simp only [List.length_append, be_length]); omega)).mono ?_); rintro e w6 ⟨a6, n6, c6, L6, rfl, R6⟩; have S6 : Frm (ob ar) w5 w6 := R6.out.frm)
      go_wp2_with fail
      refine hK.out _ _ (by assumption) (fun hHeld => ?_)
      clear hK K
      try simp only [Act.put, List.setIfInBounds_toArray, List.set_cons_zero, List.set_cons_succ]
      refine wpAnyH_ready (rs := [6]) (by kernel_rfl) (by simp) ?_
      refine AllReadyH.cons (o := ⟨some 80, _, _, _, _, _⟩) rfl (fun K hK => ?_) AllReadyH.nil
      go_simp
      (go_at_call 57; (with_reducible refine (rv_put (x2) 8 8 rfl R6.out L6.out hx2 (by omega) (by have := HLK.out; (try simp only [List.length_append, be_length]); omega)).mono ?_); rintro e w7 ⟨a7, n7, c7, L7, rfl, R7⟩; have S7 : Frm (ob ar) w5 w7 := R7.out.frm)
      go_wp2_with fail
      refine hK.out _ _ (by assumption) (fun hHeld => ?_)
      clear hK K
      try simp only [Act.put, List.setIfInBounds_toArray, List.set_cons_zero, List.set_cons_succ]
      refine wpAnyH_ready (rs := [9]) (by kernel_rfl) (by simp) ?_
      refine AllReadyH.cons (o := ⟨some 83, _, _, _, _, _⟩) rfl (fun K hK => ?_) AllReadyH.nil
      go_simp
      (go_at_call 57; (with_reducible refine (rv_put (x3) 8 8 rfl R7.out L7.out hx3 (by omega) (by have := HLK.out; (try simp only [List.length_append, be_length]); omega)).mono ?_); rintro e w8 ⟨a8, n8, c8, L8, rfl, R8⟩; have S8 : Frm (ob ar) w5 w8 := R8.out.frm)
      go_wp2_with fail
      refine hK.out _ _ (by assumption) (fun hHeld => ?_)
      clear hK K
      try simp only [Act.put, List.setIfInBounds_toArray, List.set_cons_zero, List.set_cons_succ]
      refine wpAnyH_take (i := 10) (oi := ⟨some 5, _, _, _, _, _⟩) (v := ?_) rfl (by kernel_rfl) (by kernel_rfl) (by kernel_rfl) (fun _ _ _ h => h) (Or.inl ⟨by rfl, ?_⟩) (by assumption) ?_
      rotate_left 1
      · (intro w hSw; (try dsimp only at hSw); go_simp; all_goals with_reducible rfl)
      try simp only [Act.put, List.setIfInBounds_toArray, List.set_cons_zero, List.set_cons_succ]
      refine wpAnyH_done (by kernel_rfl) ?_ _
      have RF := Lib.hid (R8.out.rw HF5.out HLO.out)
      rw [← HNX.out] at RF
      have LF : Hid (n8 = (l (k + 1)).length) := Lib.hid (by rw [HNX.out]; exact L8.out)
      clear R5 R6 R7 R8 L5 L6 L7 L8 S5 S6 S7 S8 F0 F1 F2 p0 p1 p2 d3
      go_wp2
      go_roundw
      case rel => exact ⟨k + 1, a8, n8, c8, by omega, rfl, by go_num, LF, RF⟩
      case measure => simp [intOf]; omega
    · obtain rfl : k = m := by omega
      have hD := HD0.out.more (F' := ob ar ++ F) SK (fun x hx => by
        rcases List.mem_append.1 hx with h1 | h1
        · exact .inr (RK.out.new x h1)
        · exact .inl h1)
      have HLS := Lib.hid (ds_list (w := wr) ⟨#[]⟩ hD (fun x hx => by
        rcases List.mem_append.1 hx with h1 | h1
        · exact RK.out.lt x h1
        · exact Nat.lt_of_lt_of_le (HFF.out x h1) SK.size) (by decide))
      clear hD hm16 hlt hk
      go_wp2_with fail
      (with_reducible refine HLS.out.mono ?_)
      rintro e w6 ⟨la, lc, Y, hY, rfl, hNL, hf6⟩
      rw [show S.nodes.filter (fun d => pfx ⟨#[]⟩ d.k) = S.nodes from List.filter_eq_self.2 (fun d _ => rfl)] at hY
      obtain ⟨G, hG⟩ : ∃ G, G = ob ar := ⟨_, rfl⟩
      have R6 : Hid (Rv w0 w6 G w6 ar cr (l k)) := Lib.hid ⟨(RK.out.keep hf6).own, Frm.refl _ _, fun x hx => .inl (by rw [hG]; exact hx), (RK.out.keep hf6).frm.size⟩
      have HG0 : Hid (∀ x ∈ G, w0.heap.size ≤ x) := Lib.hid (by rw [hG]; exact RK.out.new)
      have HF6 := Lib.hid (SK.trans hf6 (U := []) (by simp) (by simp))
      have HNL : Hid (NL w6 G la Y) := Lib.hid (hNL.keep (Frm.refl [] _) (by simp) (fun x hx => .inl (by simp [← hG, hx])))
      obtain ⟨n, hn⟩ : ∃ n, n = Y.length := ⟨_, rfl⟩
      have hnN : n = S.nodes.length := by rw [hn, ← hY, nds_len']
      have hn256 : n ≤ 256 := by rw [hnN]; exact HM.out.few
      rw [← hn]
      have HN := Lib.hid hn
      have HNN := Lib.hid hnN
      have HY := Lib.hid hY
      have fn : IntKind.u64.wrap (n : Int) = (n : Int) := by simp [IntKind.wrap, IntKind.bits, IntKind.signed]; omega
      have fn2 : (n : Int) % 18446744073709551616 = (n : Int) := by omega
      have L6 : Hid (nr = (l k).length) := LK
      have HLK : Hid ((l k).length ≤ 1000) := Lib.hid (by rw [HLEN.out k (Nat.le_refl _)]; have := HM.out.right.1; have := HMM.out; omega)
      clear hY hNL hf6 hn hnN hG RK SK HLS d3 LK HSL HST HEK HD0 HFF
      go_wp2_with fail
      (with_reducible refine (rv_put n 2 2 rfl R6.out L6.out (by omega) (by omega) (by have := HLK.out; omega)).mono ?_)
      rintro e w7 ⟨a7, n7, c7, L7, rfl, R7⟩
      clear R6 L6 fn fn2
      obtain ⟨j, hj⟩ : ∃ j : Nat → List Nat, j = fun i => l k ++ be 2 n ++ (S.nodes.take i).flatMap encN := ⟨_, rfl⟩
      have HJ := Lib.hid hj
      have hjl : ∀ i, (j i).length ≤ 1100000 := by
        intro i
        rw [hj]
        have h1 := HLK.out
        have h2 := flat_len encN 4000 (S.nodes.take i) (fun d hd => by
          have := HM.out.good.small d (List.mem_of_mem_take hd)
          unfold encN cb; simp only [List.length_append, be_length, strL_length]; omega)
        have h3 : (S.nodes.take i).length ≤ 256 := by rw [List.length_take]; have := HNN.out; omega
        simp only [List.length_append, be_length]
        omega
      have HJL := Lib.hid hjl
      have e70 : l k ++ be 2 n = j 0 := by rw [hj]; simp
      have L70 : Hid (n7 = (j 0).length) := Lib.hid (by rw [← e70]; exact L7.out)
      have R70 : Hid (Rv w0 w6 G w7 a7 c7 (j 0)) := Lib.hid (by rw [← e70]; exact R7.out)
      clear hj hjl L7 R7 e70
      go_wp2
      go_loopw [5, 9] (fun s5 s9 wr => RrRel2 w0 w6 G n j s5 s9 wr) (fun _ s9 _ => n - (intOf s9).toNat)
      case atStart => exact ⟨0, a7, n7, c7, Nat.zero_le _, rfl, rfl, L70, R70⟩
      case round =>
        clear L70 R70
        obtain ⟨i, ai, ni, ci, hi, rfl, rfl, LI, RI⟩ := hrel
        by_cases hlt : i < n
        · have hiY : i < Y.length := by have := HN.out; omega
          have hiS : i < S.nodes.length := by have := HNN.out; omega
          obtain ⟨b, off, e, p0, p1, p2, p3, ok⟩ := HNL.out.at hiY
          have haw : b ∉ G := by
            have := HNL.out.away (fun h => by rw [h] at hiY; simp at hiY) _ e
            exact this
          have hd0 : (Y.getD i default).t = S.nodes.getD i default := by rw [← HY.out, nds_getD]
          have hsm := HM.out.good.small (S.nodes.getD i default) (by simp [hiS])
          have HNX : Hid (j (i + 1) = j i ++ encN (S.nodes.getD i default)) := Lib.hid (by rw [HJ.out]; simp only; rw [flat_take encN S.nodes hiS]; simp only [List.append_assoc])
          rw [← hd0] at hsm HNX
          obtain ⟨x, hx⟩ : ∃ x, x = Y.getD i default := ⟨_, rfl⟩
          rw [← hx] at p0 p1 p2 p3 ok hsm HNX
          obtain ⟨⟨xk, xv, xver, xown⟩, xa, xc⟩ := x
          obtain ⟨hbx, hax, hnx, hver, hown, _⟩ := ok
          simp only at p0 p1 p2 p3 hsm hbx hax hnx hver hown HNX
          obtain ⟨vn, hvn⟩ : ∃ vn, vn = xv.length := ⟨_, rfl⟩
          rw [← hvn] at p1 hsm
          have hkv : xk.size ≤ 64 ∧ vn ≤ 3840 := ⟨hsm.1, hsm.2⟩
          have HBX := Lib.hid (fun (z : World) (hz : Frm G w6 z) => hz.bytes' hbx hax)
          have HAP := Lib.hid (fun (F' : List Nat) (hF' : ∀ x ∈ F', x ∈ G ∨ w6.heap.size ≤ x) (hne : xv ≠ []) (y : Addr) (hy : xa = some y) (hm : y.block ∈ F') => by
            rcases hF' _ hm with h1 | h1
            · exact hax hne y hy h1
            · have := bytes_lt hbx hne y hy; omega)
          have HVN := Lib.hid hvn
          have HNX2 := Lib.hid hnx
          have HCB1 : Hid ((cb (strL xk)).length = 4 + xk.size) := Lib.hid (by unfold cb; rw [List.length_append, be_length, strL_length])
          have HCB2 : Hid ((cb xv).length = 4 + vn) := Lib.hid (by unfold cb; rw [List.length_append, be_length, hvn])
          have hlb : b < w6.heap.size := block_lt_of_cell p0
          have P0 : ∀ y, Frm G w6 y → y.cell? ⟨b, off + i * 4, none⟩ = some (.string xk) := fun y hy => (hy.cell (p := ⟨b, off + i * 4, none⟩) hlb haw).trans p0
          have P1 : ∀ y, Frm G w6 y → y.cell? ⟨b, off + i * 4 + 1, none⟩ = some (.slice xa vn xc) := fun y hy => (hy.cell (p := ⟨b, off + i * 4 + 1, none⟩) hlb haw).trans p1
          have P2 : ∀ y, Frm G w6 y → y.cell? ⟨b, off + i * 4 + 2, none⟩ = some (.int .u64 (xver : Nat)) := fun y hy => (hy.cell (p := ⟨b, off + i * 4 + 2, none⟩) hlb haw).trans p2
          have P3 : ∀ y, Frm G w6 y → y.cell? ⟨b, off + i * 4 + 3, none⟩ = some (.int .u64 (xown : Nat)) := fun y hy => (hy.cell (p := ⟨b, off + i * 4 + 3, none⟩) hlb haw).trans p3
          have HP2 := Lib.hid P2
          have HP3 := Lib.hid P3
          have HLJ : Hid ((j i).length ≤ 1100000) := Lib.hid (HJL.out i)
          have S7 : Frm G w6 wr := RI.out.frm
          have R7 := RI
          have L7 := LI
          have hcv := fun (w : World) => Lib.run_convert_string_bytes (P := Tryz.prog) w 9 35 5 xk Tryz.underlying9 Tryz.underlying35 Tryz.underlying5
          subst e
          clear hx hd0 hbx hax hnx hvn hsm p0 p1 p2 p3 P2 P3 hiY hiS haw hlb RI LI
          go_wp2
          refine wp_region_held_drew (S := fun w' => Frm G w6 w') (by kernel_rfl) (Frm.drew S7) (fun hHeld => ?_)
          refine wpAnyH_take (i := 0) (oi := ⟨some 99, _, _, _, _, _⟩) (v := ?_) rfl (by kernel_rfl) (by kernel_rfl) (by kernel_rfl) (fun _ _ _ h => h) (Or.inl ⟨by rfl, ?_⟩) (by assumption) ?_
          rotate_left 1
          · (intro w hSw; (try dsimp only at hSw); go_simp; all_goals with_reducible rfl)
          try simp only [Act.put, List.setIfInBounds_toArray, List.set_cons_zero, List.set_cons_succ]
          refine wpAnyH_take (i := 1) (oi := ⟨some 100, _, _, _, _, _⟩) (v := ?_) rfl (by kernel_rfl) (by kernel_rfl) (by kernel_rfl) (fun _ _ _ h => h) (Or.inl ⟨by rfl, ?_⟩) (by assumption) ?_
          rotate_left 1
          · (intro w hSw; (try dsimp only at hSw); go_simp; all_goals with_reducible rfl)
          try simp only [Act.put, List.setIfInBounds_toArray, List.set_cons_zero, List.set_cons_succ]
          refine wpAnyH_take (i := 2) (oi := ⟨some 101, _, _, _, _, _⟩) (v := ?_) rfl (by kernel_rfl) (by kernel_rfl) (by kernel_rfl) (fun _ _ _ h => h) (Or.inl ⟨by rfl, ?_⟩) (by assumption) ?_
          rotate_left 1
          · (intro w hSw; (try dsimp only at hSw); go_simp; all_goals with_reducible rfl)
          try simp only [Act.put, List.setIfInBounds_toArray, List.set_cons_zero, List.set_cons_succ]
          refine wpAnyH_take (i := 3) (oi := ⟨some 102, _, _, _, _, _⟩) (v := ?_) rfl (by kernel_rfl) (by kernel_rfl) (by kernel_rfl) (fun _ _ _ h => h) (Or.inl ⟨by rfl, ?_⟩) (by assumption) ?_
          rotate_left 1
          · (intro w hSw; (try dsimp only at hSw); go_simp; all_goals with_reducible rfl)
          try simp only [Act.put, List.setIfInBounds_toArray, List.set_cons_zero, List.set_cons_succ]
          refine wpAnyH_take (i := 4) (oi := ⟨some 103, _, _, _, _, _⟩) (v := ?_) rfl (by kernel_rfl) (by kernel_rfl) (by kernel_rfl) (fun _ _ _ h => h) (Or.inl ⟨by rfl, ?_⟩) (by assumption) ?_
          rotate_left 1
          · (intro w hSw; (try dsimp only at hSw); go_simp; all_goals with_reducible rfl)
          try simp only [Act.put, List.setIfInBounds_toArray, List.set_cons_zero, List.set_cons_succ]
          refine wpAnyH_take (i := 5) (oi := ⟨some 104, _, _, _, _, _⟩) (v := ?_) rfl (by kernel_rfl) (by kernel_rfl) (by kernel_rfl) (fun _ _ _ h => h) (Or.inl ⟨by rfl, ?_⟩) (by assumption) ?_
          rotate_left 1
          · (intro w hSw; (try dsimp only at hSw); go_simp; all_goals with_reducible rfl)
          try simp only [Act.put, List.setIfInBounds_toArray, List.set_cons_zero, List.set_cons_succ]
          refine wpAnyH_take (i := 8) (oi := ⟨some 107, _, _, _, _, _⟩) (v := ?_) rfl (by kernel_rfl) (by kernel_rfl) (by kernel_rfl) (fun _ _ _ h => h) (Or.inl ⟨by rfl, ?_⟩) (by assumption) ?_
          rotate_left 1
          · (intro w hSw; (try dsimp only at hSw); go_simp; all_goals with_reducible rfl)
          try simp only [Act.put, List.setIfInBounds_toArray, List.set_cons_zero, List.set_cons_succ]
          refine wpAnyH_take (i := 9) (oi := ⟨some 108, _, _, _, _, _⟩) (v := ?_) rfl (by kernel_rfl) (by kernel_rfl) (by kernel_rfl) (fun _ _ _ h => h) (Or.inl ⟨by rfl, ?_⟩) (by assumption) ?_
          rotate_left 1
          · (intro w hSw; (try dsimp only at hSw); go_simp; all_goals with_reducible rfl)
          try simp only [Act.put, List.setIfInBounds_toArray, List.set_cons_zero, List.set_cons_succ]
          refine wpAnyH_take (i := 10) (oi := ⟨some 109, _, _, _, _, _⟩) (v := ?_) rfl (by kernel_rfl) (by kernel_rfl) (by kernel_rfl) (fun _ _ _ h => h) (Or.inl ⟨by rfl, ?_⟩) (by assumption) ?_
          rotate_left 1
          · (intro w hSw; (try dsimp only at hSw); go_simp; all_goals with_reducible rfl)
          try simp only [Act.put, List.setIfInBounds_toArray, List.set_cons_zero, List.set_cons_succ]
          refine wpAnyH_take (i := 11) (oi := ⟨some 110, _, _, _, _, _⟩) (v := ?_) rfl (by kernel_rfl) (by kernel_rfl) (by kernel_rfl) (fun _ _ _ h => h) (Or.inl ⟨by rfl, ?_⟩) (by assumption) ?_
          rotate_left 1
          · (intro w hSw; (try dsimp only at hSw); go_simp; all_goals with_reducible rfl)
          try simp only [Act.put, List.setIfInBounds_toArray, List.set_cons_zero, List.set_cons_succ]
          refine wpAnyH_take (i := 12) (oi := ⟨some 111, _, _, _, _, _⟩) (v := ?_) rfl (by kernel_rfl) (by kernel_rfl) (by kernel_rfl) (fun _ _ _ h => h) (Or.inl ⟨by rfl, ?_⟩) (by assumption) ?_
          rotate_left 1
          · (intro w hSw; (try dsimp only at hSw); go_simp; all_goals with_reducible rfl)
          try simp only [Act.put, List.setIfInBounds_toArray, List.set_cons_zero, List.set_cons_succ]
          refine wpAnyH_ready (rs := [6]) (by kernel_rfl) (by simp) ?_
          refine AllReadyH.cons (o := ⟨some 105, _, _, _, _, _⟩) rfl (fun K hK => ?_) AllReadyH.nil
          go_simp
          have Sb : Frm G w6 (Lib.bytesWorld wr.drew 5 xk) := S7.drew.trans (conv_frm _ _ _) (fun _ h => h) (by simp)
          refine hK.out _ _ (by assumption) (fun hHeld => ?_)
          clear hK K
          try simp only [Act.put, List.setIfInBounds_toArray, List.set_cons_zero, List.set_cons_succ]
          refine wpAnyH_ready (rs := [7]) (by kernel_rfl) (by simp) ?_
          refine AllReadyH.cons (o := ⟨some 106, _, _, _, _, _⟩) rfl (fun K hK => ?_) AllReadyH.nil
          go_simp
          (go_at_call 58; (refine (rv_text (z := wr.drew) xk (R7.out.keep (Frm.refl _ _).drew) L7.out rfl (by have := hkv.1; omega) (by have := HLJ.out; omega)).mono ?_); rintro e w8 ⟨a8, n8, c8, L8, rfl, R8⟩; have S8 : Frm G w6 w8 := R8.out.frm)
          go_wp2_with fail
          refine hK.out _ _ (by assumption) (fun hHeld => ?_)
          clear hK K
          try simp only [Act.put, List.setIfInBounds_toArray, List.set_cons_zero, List.set_cons_succ]
          refine wpAnyH_ready (rs := [13]) (by kernel_rfl) (by simp) ?_
          refine AllReadyH.cons (o := ⟨some 112, _, _, _, _, _⟩) rfl (fun K hK => ?_) AllReadyH.nil
          go_simp
          (go_at_call 58; (with_reducible refine (rv_bytes xa vn xc xv R8.out L8.out (HBX.out _ R8.out.frm) (HAP.out _ R8.out.pos) HVN.out HNX2.out (by have h1 := HLJ.out; have h2 := hkv.1; have h3 := hkv.2; (try simp only [List.length_append, HCB1.out]); omega) (by have := hkv.2; omega)).mono ?_); rintro e w9 ⟨a9, n9, c9, L9, rfl, R9⟩; have S9 : Frm G w6 w9 := R9.out.frm)
          go_wp2_with fail
          refine hK.out _ _ (by assumption) (fun hHeld => ?_)
          clear hK K
          try simp only [Act.put, List.setIfInBounds_toArray, List.set_cons_zero, List.set_cons_succ]
          refine wpAnyH_take (i := 14) (oi := ⟨some 5, _, _, _, _, _⟩) (v := ?_) rfl (by kernel_rfl) (by kernel_rfl) (by kernel_rfl) (fun _ _ _ h => h) (Or.inl ⟨by rfl, ?_⟩) (by assumption) ?_
          rotate_left 1
          · (intro w hSw; (try dsimp only at hSw); go_simp; all_goals with_reducible rfl)
          try simp only [Act.put, List.setIfInBounds_toArray, List.set_cons_zero, List.set_cons_succ]
          refine wpAnyH_done (by kernel_rfl) ?_ _
          clear P0 P1 hcv Sb
          go_wp2
          have P2 := HP2.out
          have P3 := HP3.out
          refine wp_region_held_drew (S := fun w' => Frm G w6 w') (by kernel_rfl) (Frm.drew S9) (fun hHeld => ?_)
          refine wpAnyH_take (i := 0) (oi := ⟨some 113, _, _, _, _, _⟩) (v := ?_) rfl (by kernel_rfl) (by kernel_rfl) (by kernel_rfl) (fun _ _ _ h => h) (Or.inl ⟨by rfl, ?_⟩) (by assumption) ?_
          rotate_left 1
          · (intro w hSw; (try dsimp only at hSw); go_simp; all_goals with_reducible rfl)
          try simp only [Act.put, List.setIfInBounds_toArray, List.set_cons_zero, List.set_cons_succ]
          refine wpAnyH_take (i := 1) (oi := ⟨some 114, _, _, _, _, _⟩) (v := ?_) rfl (by kernel_rfl) (by kernel_rfl) (by kernel_rfl) (fun _ _ _ h => h) (Or.inl ⟨by rfl, ?_⟩) (by assumption) ?_
          rotate_left 1
          · (intro w hSw; (try dsimp only at hSw); go_simp; all_goals with_reducible rfl)
          try simp only [Act.put, List.setIfInBounds_toArray, List.set_cons_zero, List.set_cons_succ]
          refine wpAnyH_take (i := 2) (oi := ⟨some 115, _, _, _, _, _⟩) (v := ?_) rfl (by kernel_rfl) (by kernel_rfl) (by kernel_rfl) (fun _ _ _ h => h) (Or.inl ⟨by rfl, ?_⟩) (by assumption) ?_
          rotate_left 1
          · (intro w hSw; (try dsimp only at hSw); go_simp; all_goals with_reducible rfl)
          try simp only [Act.put, List.setIfInBounds_toArray, List.set_cons_zero, List.set_cons_succ]
          refine wpAnyH_take (i := 3) (oi := ⟨some 116, _, _, _, _, _⟩) (v := ?_) rfl (by kernel_rfl) (by kernel_rfl) (by kernel_rfl) (fun _ _ _ h => h) (Or.inl ⟨by rfl, ?_⟩) (by assumption) ?_
          rotate_left 1
          · (intro w hSw; (try dsimp only at hSw); go_simp; all_goals with_reducible rfl)
          try simp only [Act.put, List.setIfInBounds_toArray, List.set_cons_zero, List.set_cons_succ]
          refine wpAnyH_take (i := 4) (oi := ⟨some 117, _, _, _, _, _⟩) (v := ?_) rfl (by kernel_rfl) (by kernel_rfl) (by kernel_rfl) (fun _ _ _ h => h) (Or.inl ⟨by rfl, ?_⟩) (by assumption) ?_
          rotate_left 1
          · (intro w hSw; (try dsimp only at hSw); go_simp; all_goals with_reducible rfl)
          try simp only [Act.put, List.setIfInBounds_toArray, List.set_cons_zero, List.set_cons_succ]
          refine wpAnyH_take (i := 5) (oi := ⟨some 118, _, _, _, _, _⟩) (v := ?_) rfl (by kernel_rfl) (by kernel_rfl) (by kernel_rfl) (fun _ _ _ h => h) (Or.inl ⟨by rfl, ?_⟩) (by assumption) ?_
          rotate_left 1
          · (intro w hSw; (try dsimp only at hSw); go_simp; all_goals with_reducible rfl)
          try simp only [Act.put, List.setIfInBounds_toArray, List.set_cons_zero, List.set_cons_succ]
          refine wpAnyH_take (i := 7) (oi := ⟨some 120, _, _, _, _, _⟩) (v := ?_) rfl (by kernel_rfl) (by kernel_rfl) (by kernel_rfl) (fun _ _ _ h => h) (Or.inl ⟨by rfl, ?_⟩) (by assumption) ?_
          rotate_left 1
          · (intro w hSw; (try dsimp only at hSw); go_simp; all_goals with_reducible rfl)
          try simp only [Act.put, List.setIfInBounds_toArray, List.set_cons_zero, List.set_cons_succ]
          refine wpAnyH_take (i := 8) (oi := ⟨some 121, _, _, _, _, _⟩) (v := ?_) rfl (by kernel_rfl) (by kernel_rfl) (by kernel_rfl) (fun _ _ _ h => h) (Or.inl ⟨by rfl, ?_⟩) (by assumption) ?_
          rotate_left 1
          · (intro w hSw; (try dsimp only at hSw); go_simp; all_goals with_reducible rfl)
          try simp only [Act.put, List.setIfInBounds_toArray, List.set_cons_zero, List.set_cons_succ]
          refine wpAnyH_take (i := 9) (oi := ⟨some 122, _, _, _, _, _⟩) (v := ?_) rfl (by kernel_rfl) (by kernel_rfl) (by kernel_rfl) (fun _ _ _ h => h) (Or.inl ⟨by rfl, ?_⟩) (by assumption) ?_
          rotate_left 1
          · (intro w hSw; (try dsimp only at hSw); go_simp; all_goals with_reducible rfl)
          try simp only [Act.put, List.setIfInBounds_toArray, List.set_cons_zero, List.set_cons_succ]
          refine wpAnyH_take (i := 10) (oi := ⟨some 123, _, _, _, _, _⟩) (v := ?_) rfl (by kernel_rfl) (by kernel_rfl) (by kernel_rfl) (fun _ _ _ h => h) (Or.inl ⟨by rfl, ?_⟩) (by assumption) ?_
          rotate_left 1
          · (intro w hSw; (try dsimp only at hSw); go_simp; all_goals with_reducible rfl)
          try simp only [Act.put, List.setIfInBounds_toArray, List.set_cons_zero, List.set_cons_succ]
          refine wpAnyH_take (i := 11) (oi := ⟨some 124, _, _, _, _, _⟩) (v := ?_) rfl (by kernel_rfl) (by kernel_rfl) (by kernel_rfl) (fun _ _ _ h => h) (Or.inl ⟨by rfl, ?_⟩) (by assumption) ?_
          rotate_left 1
          · (intro w hSw; (try dsimp only at hSw); go_simp; all_goals with_reducible rfl)
          try simp only [Act.put, List.setIfInBounds_toArray, List.set_cons_zero, List.set_cons_succ]
          refine wpAnyH_ready (rs := [6]) (by kernel_rfl) (by simp) ?_
          refine AllReadyH.cons (o := ⟨some 119, _, _, _, _, _⟩) rfl (fun K hK => ?_) AllReadyH.nil
          go_simp
          (go_at_call 57; (refine (rv_put (z := w9.drew) (xver) 8 8 rfl (R9.out.keep (Frm.refl _ _).drew) L9.out hver (by omega) (by have h1 := HLJ.out; have h2 := hkv.1; have h3 := hkv.2; (try simp only [List.length_append, HCB1.out, HCB2.out]); omega)).mono ?_); rintro e w10 ⟨a10, n10, c10, L10, rfl, R10⟩; have S10 : Frm G w6 w10 := R10.out.frm)
          go_wp2_with fail
          refine hK.out _ _ (by assumption) (fun hHeld => ?_)
          clear hK K
          try simp only [Act.put, List.setIfInBounds_toArray, List.set_cons_zero, List.set_cons_succ]
          refine wpAnyH_ready (rs := [12]) (by kernel_rfl) (by simp) ?_
          refine AllReadyH.cons (o := ⟨some 125, _, _, _, _, _⟩) rfl (fun K hK => ?_) AllReadyH.nil
          go_simp
          (go_at_call 57; (with_reducible refine (rv_put (xown) 8 8 rfl R10.out L10.out hown (by omega) (by have h1 := HLJ.out; have h2 := hkv.1; have h3 := hkv.2; (try simp only [List.length_append, be_length, HCB1.out, HCB2.out]); omega)).mono ?_); rintro e w11 ⟨a11, n11, c11, L11, rfl, R11⟩; have S11 : Frm G w6 w11 := R11.out.frm)
          go_wp2_with fail
          refine hK.out _ _ (by assumption) (fun hHeld => ?_)
          clear hK K
          try simp only [Act.put, List.setIfInBounds_toArray, List.set_cons_zero, List.set_cons_succ]
          refine wpAnyH_take (i := 13) (oi := ⟨some 5, _, _, _, _, _⟩) (v := ?_) rfl (by kernel_rfl) (by kernel_rfl) (by kernel_rfl) (fun _ _ _ h => h) (Or.inl ⟨by rfl, ?_⟩) (by assumption) ?_
          rotate_left 1
          · (intro w hSw; (try dsimp only at hSw); go_simp; all_goals with_reducible rfl)
          try simp only [Act.put, List.setIfInBounds_toArray, List.set_cons_zero, List.set_cons_succ]
          refine wpAnyH_done (by kernel_rfl) ?_ _
          have RF := Lib.hid R11.out
          rw [show j i ++ cb (strL xk) ++ cb xv ++ be 8 xver ++ be 8 xown = j (i + 1) by rw [HNX.out]; simp [encN, List.append_assoc]] at RF
          have LF : Hid (n11 = (j (i + 1)).length) := Lib.hid (by rw [← show j i ++ cb (strL xk) ++ cb xv ++ be 8 xver ++ be 8 xown = j (i + 1) by rw [HNX.out]; simp [encN, List.append_assoc]]; exact L11.out)
          clear R7 R8 R9 R10 R11 L7 L8 L9 L10 L11 S7 S8 S9 S10 S11 P2 P3
          go_wp2
          go_roundw
          case rel => exact ⟨i + 1, a11, n11, c11, by omega, rfl, by go_num, LF, RF⟩
          case measure => simp [intOf]; omega
        · obtain rfl : i = n := by omega
          have HE : Hid (Q (.returned (.slice ai ni ci)) wr) := Lib.hid (by
            rw [HQ.out]
            have hr : recB S c = j i := by
              rw [HJ.out]
              simp only
              rw [HNN.out, List.take_length, HL.out]
              simp only
              rw [HMM.out, List.take_length]
              unfold recB encS
              rw [if_pos HK.out, HK.out]
              simp only [List.append_assoc]
            rw [hr]
            exact ⟨ai, ni, ci, LI, rfl, Lib.hid ((RI.out.rw HF6.out HG0.out).less HF0.out)⟩)
          clear LI RI
          go_wp2
          exact HE.out
end Go.Proofs.YtomgiockelhfiaaGreat
