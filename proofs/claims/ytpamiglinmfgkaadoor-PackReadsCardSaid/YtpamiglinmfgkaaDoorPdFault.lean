/- (For PackReads' own seat.) Contracts of the reference's Reader with its faults: Number, Bytes, Fail, End. -/
import Derived.Test.YtpamiglinmfgkaaDoorPdRef
namespace Go.Proofs.YtpamiglinmfgkaaDoor
open Go.RowKit

/-- The reference's reader has the bytes l left, which lie in blocks below B, and no fault. -/
def RQ (w : World) (qb : Nat) (l : List Nat) (B : Nat) : Prop := ∃ a cap, RR w qb l a cap ∧ (l ≠ [] → ∀ x, a = some x → x.block < B)
/-- It has a fault. -/
def RFault (w : World) (qb : Nat) (c : Int) : Prop := ∃ v, Whole w qb 26 #[v, .int .i64 c]
theorem RFault.keep {w w' : World} {qb : Nat} {c : Int} {S : List Nat} (h : RFault w qb c) (hf : Frm S w w') (hq : qb ∉ S) : RFault w' qb c := h.elim fun v hv => ⟨v, hf.whole hv hq⟩
theorem RQ.keep {w w' : World} {qb : Nat} {l : List Nat} {B : Nat} {S : List Nat} (h : RQ w qb l B) (hf : Frm S w w') (hq : qb ∉ S) (hB : ∀ x ∈ S, B ≤ x) : RQ w' qb l B := by
  obtain ⟨a, cap, h, hb⟩ := h
  exact ⟨a, cap, ⟨hf.whole h.whole hq, hf.bytes' h.bytes (fun hne x hx hm => by have := hb hne x hx; have := hB _ hm; omega), h.le, h.nil, h.apart⟩, hb⟩
theorem RQ.h8 {w : World} {qb : Nat} {l : List Nat} {B : Nat} (h : RQ w qb l B) : ∀ c ∈ l, c < 256 := by obtain ⟨a, cap, h, _⟩ := h; exact h.bytes.1
theorem RQ.fault {w : World} {qb : Nat} {l : List Nat} {B : Nat} (h : RQ w qb l B) (c : Int) : RFault (w.setCell ⟨qb, 1, none⟩ (.int .i64 c)) qb c ∧ Frm [qb] w (w.setCell ⟨qb, 1, none⟩ (.int .i64 c)) := by
  obtain ⟨a, cap, h, _⟩ := h
  exact ⟨⟨_, by simpa using h.whole.put 1 (.int .i64 c)⟩, (Frm.refl _ _).setCell (.inl (by simp)) _⟩

def Faulted (w : World) (qb : Nat) (v : Value) (c : Int) (e : Ending) (w' : World) : Prop := e = .returned v ∧ RFault w' qb c ∧ Frm [qb] w w'

set_option maxHeartbeats 1000000 in
theorem rqnum_short {w : World} {qb : Nat} {l : List Nat} {B : Nat} (k : Nat) (h : RQ w qb l B) (hk : l.length < k) :
    Calls Tryd.prog 22 #[.pointer (some ⟨qb, 0, none⟩), .int .i64 k] w (Faulted w qb (.int .u64 0) 4) := by
  have FA := Lib.hid (h.fault 4)
  obtain ⟨a, cap, h, _⟩ := h
  have c0 := h.whole.cell 0
  have c1 := h.whole.cell 1
  have f1 := h.whole.free 1
  simp at c0 c1
  have hlt : (l.length : Int) < (k : Int) := by omega
  clear h hk
  go_enter Tryd.func22, Tryd.ntmps22
  go_wp2
  go_ret
  exact ⟨rfl, FA.out⟩

def Numb (w : World) (qb : Nat) (l : List Nat) (B k : Nat) (e : Ending) (w' : World) : Prop := e = .returned (.int .u64 (val (l.take k) : Nat)) ∧ RQ w' qb (l.drop k) B ∧ Frm [qb] w w'
theorem rqnum_ok {w : World} {qb : Nat} {l : List Nat} {B : Nat} (k : Nat) (h : RQ w qb l B) (hk : k ≤ l.length) (hk8 : k ≤ 8) :
    Calls Tryd.prog 22 #[.pointer (some ⟨qb, 0, none⟩), .int .i64 k] w (Numb w qb l B k) := by
  obtain ⟨a, cap, h, hb⟩ := h
  refine (ref_number_ok k h hk hk8).mono ?_
  rintro e w' ⟨rfl, rfl⟩
  exact ⟨rfl, ⟨_, _, h.next k, fun hne x hx => by obtain ⟨y, hy, hxy⟩ := cut_block hx; rw [hxy]; exact hb (fun h0 => hne (by rw [h0]; simp)) y hy⟩, (Frm.refl _ _).setCell (.inl (by simp)) _⟩

theorem rq_fail {w : World} {qb : Nat} {l : List Nat} {B : Nat} (c : Nat) (h : RQ w qb l B) :
    Calls Tryd.prog 7 #[.pointer (some ⟨qb, 0, none⟩), .int .i64 c] w (fun e w' => e = .returned (.tuple #[]) ∧ w' = w.setCell ⟨qb, 1, none⟩ (.int .i64 c)) := by
  obtain ⟨a, cap, h, _⟩ := h
  have c1 := h.whole.cell 1
  have f1 := h.whole.free 1
  simp at c1
  clear h
  go_enter Tryd.func7, Tryd.ntmps7
  go_wp2
  go_end0
  exact ⟨rfl, rfl⟩

theorem rq_end_fault {w : World} {qb : Nat} (c : Nat) (h : RFault w qb c) (hc : c ≠ 0) :
    Calls Tryd.prog 11 #[.pointer (some ⟨qb, 0, none⟩)] w (fun e w' => e = .returned (.int .i64 c) ∧ w' = w) := by
  obtain ⟨v, h⟩ := h
  have c1 := h.cell 1
  simp at c1
  have hne : ((c : Int) == 0) = false := by simp; omega
  clear h hc
  go_enter Tryd.func11, Tryd.ntmps11
  go_wp2
  go_ret
  exact ⟨rfl, rfl⟩
theorem rq_end_ok {w : World} {qb : Nat} {l : List Nat} {B : Nat} (h : RQ w qb l B) (c : Int) (hc : c = if l = [] then 0 else 5) :
    Calls Tryd.prog 11 #[.pointer (some ⟨qb, 0, none⟩)] w (fun e w' => e = .returned (.int .i64 c) ∧ Frm [qb] w w') := by
  obtain ⟨a, cap, h, _⟩ := h
  have c0 := h.whole.cell 0
  have c1 := h.whole.cell 1
  have f1 := h.whole.free 1
  simp at c0 c1
  by_cases hl : l = []
  · rw [if_pos hl] at hc
    subst hl hc
    clear h
    go_enter Tryd.func11, Tryd.ntmps11
    go_wp2
    go_ret
    exact ⟨rfl, Frm.refl _ _⟩
  · rw [if_neg hl] at hc
    subst hc
    have hlt : (0 : Int) < (l.length : Int) := by have := List.length_pos_iff.2 hl; omega
    clear h hl
    go_enter Tryd.func11, Tryd.ntmps11
    go_wp2
    go_ret
    exact ⟨rfl, (Frm.refl _ _).setCell (.inl (by simp)) _⟩

theorem run_cut_h (w : World) (a : Option Addr) (n cap hi : Nat) (h : Int) (hh : h = (hi : Nat)) (h2 : hi ≤ cap) (k : IntKind) :
    (Instr.slice 22 (.slice a n cap) none (some (.int k h)) none).run Tryd.prog w = .ok (.slice (cutAt a cap 0) hi cap) w := by
  subst hh
  have ht' : Tryd.prog.underlying 22 = some (.slice (Tryd.prog.elem 22)) := by simp [Program.elem, Tryd.underlying22]
  have he : Tryd.prog.elem 22 = 5 := by simp [Program.elem, Tryd.underlying22]
  rw [run_slice_h w _ _ _ _ ht' k _ (by omega) (by omega), he, size_byte]
  simp [Result.andThen, sliced, cutAt]

set_option maxHeartbeats 1000000 in
theorem rqbytes_short {w : World} {qb : Nat} {l : List Nat} {B : Nat} (h : RQ w qb l B) (hl : l.length < 4) :
    Calls Tryd.prog 26 #[.pointer (some ⟨qb, 0, none⟩)] w (Faulted w qb (.slice none 0 0) 4) := by
  have HN := Lib.hid (rqnum_short 4 h hl)
  clear h hl
  go_enter Tryd.func26, Tryd.ntmps26
  go_wp2_with fail
  refine HN.out.mono ?_
  rintro e w1 ⟨rfl, ⟨v, hv⟩, hf⟩
  have c1 := hv.cell 1
  simp at c1
  have FA : Hid (RFault w1 qb 4) := ⟨v, hv⟩
  have F := Lib.hid hf
  clear hv hf
  go_wp2
  go_ret
  exact ⟨rfl, FA.out, F.out⟩

set_option maxHeartbeats 1000000 in
theorem rqbytes_less {w : World} {qb : Nat} {l : List Nat} {B : Nat} (h : RQ w qb l B) (hl : 4 ≤ l.length) (hn : l.length - 4 < val (l.take 4)) :
    Calls Tryd.prog 26 #[.pointer (some ⟨qb, 0, none⟩)] w (Faulted w qb (.slice none 0 0) 4) := by
  have HN := Lib.hid (rqnum_ok 4 h hl (by omega))
  have hfit : l.length ≤ 9223372036854775807 := by obtain ⟨_, _, h, _⟩ := h; exact h.bytes.2.1
  unfold Numb at HN
  obtain ⟨z, hz⟩ : ∃ z, z = val (l.take 4) := ⟨_, rfl⟩
  rw [← hz] at HN hn
  clear h hz
  go_enter Tryd.func26, Tryd.ntmps26
  go_wp2_with fail
  refine HN.out.mono ?_
  rintro e w1 ⟨rfl, hq, hf⟩
  have FA := Lib.hid (hq.fault 4)
  obtain ⟨a, cap, hq, _⟩ := hq
  have c0 := hq.whole.cell 0
  have c1 := hq.whole.cell 1
  have f1 := hq.whole.free 1
  simp only [List.length_drop] at c0
  simp at c0 c1
  obtain ⟨m, hm⟩ : ∃ m, m = l.length - 4 := ⟨_, rfl⟩
  rw [← hm] at c0 hn
  have hmz : (m : Int) < (z : Int) := by omega
  have hm63 : m ≤ 9223372036854775807 := by omega
  have F := Lib.hid hf
  clear hq hf hm hn hfit hl
  go_wp2
  go_ret
  exact ⟨rfl, FA.out.1, F.out.trans FA.out.2 (by simp) (by simp)⟩

/-- What Bytes hands back. -/
def RQBytes (w : World) (qb : Nat) (l : List Nat) (B n : Nat) (e : Ending) (w' : World) : Prop :=
  ∃ a cap, e = .returned (.slice a n cap) ∧ Bytes w' a ((l.drop 4).take n) ∧ n ≤ cap ∧ ((l.drop 4).take n ≠ [] → ∀ x, a = some x → x.block < B) ∧ RQ w' qb (l.drop (4 + n)) B ∧ Frm [qb] w w'
set_option maxHeartbeats 2000000 in
theorem rqbytes_ok {w : World} {qb : Nat} {l : List Nat} {B : Nat} (h : RQ w qb l B) (hqB : B ≤ qb) (hl : 4 ≤ l.length) (z : Nat) (hz : val (l.take 4) = z) (hn : z ≤ l.length - 4) :
    Calls Tryd.prog 26 #[.pointer (some ⟨qb, 0, none⟩)] w (RQBytes w qb l B z) := by
  have HN := Lib.hid (rqnum_ok 4 h hl (by omega))
  have hfit : l.length ≤ 9223372036854775807 := by obtain ⟨_, _, h, _⟩ := h; exact h.bytes.2.1
  unfold Numb at HN
  rw [hz] at HN
  clear h hz
  go_enter Tryd.func26, Tryd.ntmps26
  go_wp2_with fail
  refine HN.out.mono ?_
  rintro e w1 ⟨rfl, hq, hf⟩
  obtain ⟨a, cap, hq, hb⟩ := hq
  have c0 := hq.whole.cell 0
  have c1 := hq.whole.cell 1
  have f0 := hq.whole.free 0
  simp only [List.length_drop] at c0
  simp at c0 c1
  obtain ⟨m, hm⟩ : ∃ m, m = l.length - 4 := ⟨_, rfl⟩
  rw [← hm] at c0 hn
  have hmz : ¬ (m : Int) < (z : Int) := by omega
  have hm63 : m ≤ 9223372036854775807 := by omega
  have hmc : m ≤ cap := by have := hq.le; simp at this; omega
  have cH := fun W => run_cut_h W a m cap z (z : Int) rfl (by omega) .u64
  have cL := fun (W : World) => run_cut_l (P := Tryd.prog) Tryd.underlying22 size_byte W a m cap z (z : Int) rfl (by omega) .u64
  have NX := Lib.hid (hq.next z)
  simp only [List.length_drop, ← hm] at NX
  have BH : Hid (Bytes w1 (cutAt a cap 0) ((l.drop 4).take z)) := by have := (cut_bytes hq.bytes hq.le 0).take z; rw [List.drop_zero] at this; exact this
  have BB := Lib.hid hb
  obtain ⟨a1, ha1⟩ : ∃ a1, a1 = cutAt a cap 0 := ⟨_, rfl⟩
  obtain ⟨a2, ha2⟩ : ∃ a2, a2 = cutAt a cap z := ⟨_, rfl⟩
  obtain ⟨m2, hm2⟩ : ∃ m2, m2 = m - z := ⟨_, rfl⟩
  obtain ⟨p2, hp2⟩ : ∃ p2, p2 = cap - z := ⟨_, rfl⟩
  rw [← ha1] at cH BH
  rw [← ha2, ← hm2, ← hp2] at cL NX
  have A1 := Lib.hid ha1
  have A2 := Lib.hid ha2
  have F := Lib.hid hf
  have HQB := Lib.hid hqB
  clear hq hf hm hb ha1 ha2 hm2 hp2 hl hqB
  go_wp2
  go_ret
  refine ⟨a1, cap, rfl, ?_, by omega, ?_, ⟨a2, p2, ?_, ?_⟩, F.out.trans ((Frm.refl [qb] _).setCell (.inl (by simp)) _) (by simp) (by simp)⟩
  · refine ((Frm.refl [qb] w1).setCell (p := ⟨qb, 0, none⟩) (.inl (by simp)) _).bytes' BH.out (fun hne x hx hm => ?_)
    rw [A1.out] at hx
    obtain ⟨y, hy, hxy⟩ := cut_block hx
    have := BB.out (fun h0 => hne (by rw [h0]; simp)) y hy
    have := HQB.out
    simp at hm
    omega
  · intro hne x hx
    rw [A1.out] at hx
    obtain ⟨y, hy, hxy⟩ := cut_block hx
    rw [hxy]; exact BB.out (fun h0 => hne (by rw [h0]; simp)) y hy
  · have := NX.out
    rw [List.drop_drop] at this
    exact this
  · intro hne x hx
    rw [A2.out] at hx
    obtain ⟨y, hy, hxy⟩ := cut_block hx
    rw [hxy]; exact BB.out (fun h0 => hne (by rw [← List.drop_drop, h0]; simp)) y hy
end Go.Proofs.YtpamiglinmfgkaaDoor
