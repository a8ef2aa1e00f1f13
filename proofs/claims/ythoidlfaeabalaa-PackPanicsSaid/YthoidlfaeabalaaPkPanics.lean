/- PackPanics: for every slice of bytes, every int, calm or not, the law answers true and writes nothing that was there. No condition. -/
import Derived.Test.YthoidlfaeabalaaPkAwake
namespace Go.Proofs.Ythoidlfaeabalaa
open Go.RowKit

theorem caught_by_calm (cb0 nb0 : Nat) (w w1 : World) (rb cb db : Nat) (l : List Nat) (h : Told w w1 rb cb db l) (hc : w1.cell? ⟨cb0, 0, none⟩ = some (.bool true)) :
    Calls Try.prog 42 (#[.pointer (some ⟨rb, 0, none⟩)] ++ #[.pointer (some ⟨cb0, 0, none⟩), .pointer (some ⟨nb0, 0, none⟩)]) w1 (ByRet w w1 rb cb db (fun w2 rest => Frm [] w w2 ∧ rest = l)) := by
  have H := Lib.hid h; clear h
  show Calls Try.prog 42 #[.pointer (some ⟨rb, 0, none⟩), .pointer (some ⟨cb0, 0, none⟩), .pointer (some ⟨nb0, 0, none⟩)] w1 _
  go_enter Try.func42, Try.ntmps42
  go_wp2
  go_end0
  exact ⟨rfl, l, [], ⟨H.out.frm, rfl⟩, H.out.rdr, Frm.refl _ _, by simp⟩
theorem caught_by_panic (n : Int) (cb0 nb0 : Nat) (w w1 : World) (rb cb db : Nat) (l : List Nat) (h : Told w w1 rb cb db l) (hc : w1.cell? ⟨cb0, 0, none⟩ = some (.bool false)) (hn : w1.cell? ⟨nb0, 0, none⟩ = some (.int .i64 n)) :
    Calls Try.prog 42 (#[.pointer (some ⟨rb, 0, none⟩)] ++ #[.pointer (some ⟨cb0, 0, none⟩), .pointer (some ⟨nb0, 0, none⟩)]) w1 (ByPanic w w1 rb cb n (fun w2 => Frm [] w w2)) := by
  have H := Lib.hid h; clear h
  show Calls Try.prog 42 #[.pointer (some ⟨rb, 0, none⟩), .pointer (some ⟨cb0, 0, none⟩), .pointer (some ⟨nb0, 0, none⟩)] w1 _
  go_enter Try.func42, Try.ntmps42
  go_wp2
  obtain ⟨_, _, _, hcw, _⟩ := H.out.rdr
  exact ⟨rfl, rfl, [], 0, H.out.frm, hcw, Frm.refl _ _, by simp⟩
theorem enters_caught (args : Array Value) (w : World) : (callFunc 42 args).run Try.prog w = .ok (.enter 42 args) w := by kernel_rfl

theorem c_idle (g : Nat) (v : Value) (w : World) (hg : Whole w g 20 #[v]) :
    CallsD Try.prog 41 #[.pointer (some ⟨g, 0, none⟩)] .returning w fun e u' w' =>
      e = .returned (.tuple #[]) ∧ u' = .returning ∧ w' = w.setCell ⟨g, 0, none⟩ .nilIface := by
  have c0 := hg.cell 0
  have f0 := hg.free 0
  simp at c0
  refine callsD_of_wpS Try.func41 rfl fun c₀ cs hu => ?_
  simp only [Try.ntmps41, List.size_toArray, List.length_cons, List.length_nil, Nat.reduceAdd, Nat.reduceSub, Array.replicate_succ, Array.replicate_zero, List.push_toArray, List.append_toArray, List.nil_append, List.cons_append]
  apply wpS_region
  simp [wpOpsS, go_sem, recoverD, hu, c0, f0]
  cases c₀
  simp_all [bodyPostS, results, Try.results41]
theorem c_panic (g : Nat) (v : Value) (n : Int) (older : List PanicEntry) (w : World) (hg : Whole w g 20 #[v]) :
    CallsD Try.prog 41 #[.pointer (some ⟨g, 0, none⟩)] (.panicking ({ v := .iface 3 (.int .i64 n), recovered := false } :: older)) w fun e u' w' =>
      e = .returned (.tuple #[]) ∧ u' = .panicking ({ v := .iface 3 (.int .i64 n), recovered := true } :: older) ∧ w' = w.setCell ⟨g, 0, none⟩ (.iface 3 (.int .i64 n)) := by
  have c0 := hg.cell 0
  have f0 := hg.free 0
  simp at c0
  refine callsD_of_wpS Try.func41 rfl fun c₀ cs hu => ?_
  simp only [Try.ntmps41, List.size_toArray, List.length_cons, List.length_nil, Nat.reduceAdd, Nat.reduceSub, Array.replicate_succ, Array.replicate_zero, List.push_toArray, List.append_toArray, List.nil_append, List.cons_append]
  apply wpS_region
  simp [wpOpsS, go_sem, recoverD, hu, c0, f0]
  simp [bodyPostS, results, Try.results41]

/-- What caught answers: what was caught, and the error. -/
def Caught (w : World) (v : Value) (c : Int) (e : Ending) (w' : World) : Prop := e = .returned (.tuple #[v, .int .i64 c]) ∧ Frm [] w w'

set_option maxHeartbeats 1000000 in
theorem caught_calm (a : Option Addr) (n cap : Nat) (l : List Nat) (m : Int) (w : World) (c : Int) (hcc : c = if l = [] then 0 else 5) (hl : Bytes w a l) (hn : n = l.length) (hnil : a = none → cap = 0) (hfit : n ≤ 140737488355328) :
    Calls Try.prog 21 #[.slice a n cap, .int .i64 m, .bool true] w (Caught w .nilIface c) := by
  have HCC := Lib.hid hcc; clear hcc
  have hmf : ∀ (fn : Fn) (first cap : Array Value) (w : World), (Instr.makeFunc fn first cap).run Try.prog w = .ok (.func fn first cap) w := fun _ _ _ _ => rfl
  have HL := Lib.hid hl; clear hl
  have HN := Lib.hid hn; clear hn
  have HNIL := Lib.hid hnil; clear hnil
  go_enter_defers Try.func21, Try.ntmps21
  go_wp2_with fail
  obtain ⟨w0, hw0⟩ : ∃ w0, w0 = ((w.alloc (Obj.cells #[Value.int IntKind.i64 m] 3)).alloc (Obj.cells #[Value.bool true] 4)).alloc (Obj.cells #[Value.nilIface] 20) := ⟨_, rfl⟩
  rw [← hw0]
  obtain ⟨nb, hnb⟩ : ∃ nb, nb = w.heap.size := ⟨_, rfl⟩
  obtain ⟨cb0, hcb⟩ : ∃ cb0, cb0 = w.heap.size + 1 := ⟨_, rfl⟩
  obtain ⟨g, hg⟩ : ∃ g, g = w.heap.size + 1 + 1 := ⟨_, rfl⟩
  have hn0 : Whole w0 nb 3 #[.int .i64 m] := by rw [hw0, hnb]; exact ((Whole.made w _ _).alloc _).alloc _
  have hc0 : Whole w0 cb0 4 #[.bool true] := by rw [hw0, hcb]; exact (Whole.made' _ _ (by simp)).alloc _
  have hg0 : Whole w0 g 20 #[.nilIface] := by rw [hw0, hg]; exact Whole.made' _ _ (by simp)
  have hf0 : Frm [] w w0 := by rw [hw0]; exact (((Frm.refl _ _).alloc _).alloc _).alloc _
  rw [← hg, ← hcb, ← hnb]
  have hge : w.heap.size ≤ g := by omega
  clear hw0
  have HW := Lib.hid hn0; clear hn0
  have HC := Lib.hid hc0; clear hc0
  have HG := Lib.hid hg0; clear hg0
  have HF := Lib.hid hf0; clear hf0
  have E1 := Lib.hid hnb; clear hnb
  have E2 := Lib.hid hcb; clear hcb
  have E3 := Lib.hid hg; clear hg
  refine (read_ret 42 _ _ _ _ l _ (fun w2 rest => Frm [] w0 w2 ∧ rest = l) (HF.out.bytes HL.out (by simp)) HN.out HNIL.out hfit enters_caught (fun w1 rb cb db h => caught_by_calm cb0 nb _ w1 rb cb db l h (by have := (h.frm.whole HC.out (by simp)).cell 0; simpa using this))).mono ?_
  rintro e w2 ⟨w3, c', T, rfl, ⟨rest, ⟨hf3, rfl⟩, hc'⟩, hf4, hT⟩
  obtain rfl : c' = c := by rw [hc', HCC.out]
  have hf5 : Frm [] w0 w2 := hf3.trans hf4 (by simp) (fun x hx => .inr (hT x hx))
  have hg2 := hf5.whole HG.out (by simp)
  have hff : Frm [] w w2 := HF.out.trans hf5 (by simp) (by simp)
  have g0 := hg2.cell 0
  have g1 := hg2.free 0
  simp at g0
  have HG2 := Lib.hid (hg2.put 0 .nilIface); clear hg2
  have HFF := Lib.hid hff; clear hff hf3 hf4 hf5 hT hc'
  go_wp2
  refine leaves_cons (f := 41) (args := #[.pointer (some ⟨g, 0, none⟩)]) (by simp) (by simp [go_sem]) ?_
  refine (c_idle g _ _ HG2.out).mono ?_
  rintro e u' w'' ⟨rfl, rfl, rfl⟩
  have r0 := (HG2.out.put 0 .nilIface).cell 0
  simp at r0
  have FIN : Caught w .nilIface c' (.returned (.tuple #[.nilIface, .int .i64 c'])) ((w2.setCell ⟨g, 0, none⟩ .nilIface).setCell ⟨g, 0, none⟩ .nilIface) :=
    ⟨rfl, (HFF.out.setCell (.inr (by simpa using hge)) _).setCell (.inr (by simpa using hge)) _⟩
  simp [Leaves, settle, results, Try.results21, go_sem, r0]
  exact FIN

set_option maxHeartbeats 1000000 in
theorem caught_panic (a : Option Addr) (n cap : Nat) (l : List Nat) (m : Int) (w : World) (hl : Bytes w a l) (hn : n = l.length) (hnil : a = none → cap = 0) (hfit : n ≤ 140737488355328) :
    Calls Try.prog 21 #[.slice a n cap, .int .i64 m, .bool false] w (Caught w (.iface 3 (.int .i64 m)) 0) := by
  have hmf : ∀ (fn : Fn) (first cap : Array Value) (w : World), (Instr.makeFunc fn first cap).run Try.prog w = .ok (.func fn first cap) w := fun _ _ _ _ => rfl
  have HL := Lib.hid hl; clear hl
  have HN := Lib.hid hn; clear hn
  have HNIL := Lib.hid hnil; clear hnil
  go_enter_defers Try.func21, Try.ntmps21
  go_wp2_with fail
  obtain ⟨w0, hw0⟩ : ∃ w0, w0 = ((w.alloc (Obj.cells #[Value.int IntKind.i64 m] 3)).alloc (Obj.cells #[Value.bool false] 4)).alloc (Obj.cells #[Value.nilIface] 20) := ⟨_, rfl⟩
  rw [← hw0]
  obtain ⟨nb, hnb⟩ : ∃ nb, nb = w.heap.size := ⟨_, rfl⟩
  obtain ⟨cb0, hcb⟩ : ∃ cb0, cb0 = w.heap.size + 1 := ⟨_, rfl⟩
  obtain ⟨g, hg⟩ : ∃ g, g = w.heap.size + 1 + 1 := ⟨_, rfl⟩
  have hn0 : Whole w0 nb 3 #[.int .i64 m] := by rw [hw0, hnb]; exact ((Whole.made w _ _).alloc _).alloc _
  have hc0 : Whole w0 cb0 4 #[.bool false] := by rw [hw0, hcb]; exact (Whole.made' _ _ (by simp)).alloc _
  have hg0 : Whole w0 g 20 #[.nilIface] := by rw [hw0, hg]; exact Whole.made' _ _ (by simp)
  have hf0 : Frm [] w w0 := by rw [hw0]; exact (((Frm.refl _ _).alloc _).alloc _).alloc _
  rw [← hg, ← hcb, ← hnb]
  have hge : w.heap.size ≤ g := by omega
  clear hw0
  have HW := Lib.hid hn0; clear hn0
  have HC := Lib.hid hc0; clear hc0
  have HG := Lib.hid hg0; clear hg0
  have HF := Lib.hid hf0; clear hf0
  have E1 := Lib.hid hnb; clear hnb
  have E2 := Lib.hid hcb; clear hcb
  have E3 := Lib.hid hg; clear hg
  refine (read_panic 42 _ _ _ _ l _ (fun w2 => Frm [] w0 w2) m (HF.out.bytes HL.out (by simp)) HN.out HNIL.out hfit enters_caught (fun w1 rb cb db h => caught_by_panic m cb0 nb _ w1 rb cb db l h (by have := (h.frm.whole HC.out (by simp)).cell 0; simpa using this) (by have := (h.frm.whole HW.out (by simp)).cell 0; simpa using this))).mono ?_
  rintro e w2 ⟨w3, T, rfl, hf3, hf4, hT⟩
  have hf5 : Frm [] w0 w2 := hf3.trans hf4 (by simp) (fun x hx => .inr (hT x hx))
  have hg2 := hf5.whole HG.out (by simp)
  have hff : Frm [] w w2 := HF.out.trans hf5 (by simp) (by simp)
  refine leaves_cons (f := 41) (args := #[.pointer (some ⟨g, 0, none⟩)]) (by simp) (by simp [go_sem]) ?_
  refine (c_panic g _ m _ _ hg2).mono ?_
  rintro e u' w'' ⟨rfl, rfl, rfl⟩
  have r0 := (hg2.put 0 (.iface 3 (.int .i64 m))).cell 0
  simp at r0
  have FIN : Caught w (.iface 3 (.int .i64 m)) 0 (.returned (.tuple #[.iface 3 (.int .i64 m), .int .i64 0])) (w2.setCell ⟨g, 0, none⟩ (.iface 3 (.int .i64 m))) :=
    ⟨rfl, hff.setCell (.inr (by simpa using hge)) _⟩
  simp [Leaves, settle, results, Try.results21, go_sem, r0]
  exact FIN

theorem as_int (n : Int) (w : World) : (Instr.typeAssert (.iface 3 (.int .i64 n)) 20 3 true).run Try.prog w = .ok (.tuple #[.int .i64 n, .bool true]) w := by kernel_rfl

set_option maxHeartbeats 1000000 in
theorem packPanics_walk (a0 : Option Addr) (len0 cap0 : Nat) (z0 : List Int) (a1 : Int) (a2 : Bool) (w : World) (w0 : RowIn .u8 w a0 len0 cap0 z0) (s0 : cap0 ≤ 140737488351232) (_w1 : (Lit.int .i64 a1).wf = true) :
    Calls Try.prog 5 #[.slice a0 len0 cap0, .int .i64 a1, .bool a2] w fun e w' => e = .returned (.bool true) ∧ Below w.heap.size w w' := by
  obtain ⟨l, hn, hl⟩ := bytes_of_row w0
  have hnil := row_nil w0
  have hcap := row_cap w0
  have hta := as_int a1
  clear w0 _w1
  cases a2 with
  | true =>
    by_cases hle : l = []
    · have h0 : len0 = 0 := by rw [hn, hle]; rfl
      have CG := Lib.hid (fun (w1 : World) (hB : Bytes w1 a0 l) => caught_calm a0 len0 cap0 l a1 w1 0 (by rw [if_pos hle]) hB hn hnil (by omega))
      have HL := Lib.hid hl; clear hl hn hnil hle
      subst h0
      go_enter Try.func5, Try.ntmps5
      go_wp2_with fail
      refine (awake2_any w).mono ?_
      rintro e w1 ⟨rfl, hb⟩
      go_wp2_with fail
      refine (CG.out w1 (HL.out.later hb)).mono ?_
      rintro e w2 ⟨rfl, hf⟩
      have HB := Lib.hid (hb.trans (hf.below (by simp) hb.size)); clear hb hf
      go_wp2
      go_ret
      exact ⟨rfl, HB.out⟩
    · have h0 : 0 < len0 := by rw [hn]; cases l with | nil => exact absurd rfl hle | cons _ _ => simp
      have CG := Lib.hid (fun (w1 : World) (hB : Bytes w1 a0 l) => caught_calm a0 len0 cap0 l a1 w1 5 (by rw [if_neg hle]) hB hn hnil (by omega))
      have HL := Lib.hid hl; clear hl hn hnil hle
      go_enter Try.func5, Try.ntmps5
      go_wp2_with fail
      refine (awake2_any w).mono ?_
      rintro e w1 ⟨rfl, hb⟩
      go_wp2_with fail
      refine (CG.out w1 (HL.out.later hb)).mono ?_
      rintro e w2 ⟨rfl, hf⟩
      have HB := Lib.hid (hb.trans (hf.below (by simp) hb.size)); clear hb hf
      have hz : ((len0 : Int) == 0) = false := by simp; omega
      go_wp2
      go_ret
      exact ⟨rfl, HB.out⟩
  | false =>
    have CG := Lib.hid (fun (w1 : World) (hB : Bytes w1 a0 l) => caught_panic a0 len0 cap0 l a1 w1 hB hn hnil (by omega))
    have HL := Lib.hid hl; clear hl hn hnil
    go_enter Try.func5, Try.ntmps5
    go_wp2_with fail
    refine (awake2_any w).mono ?_
    rintro e w1 ⟨rfl, hb⟩
    go_wp2_with fail
    refine (CG.out w1 (HL.out.later hb)).mono ?_
    rintro e w2 ⟨rfl, hf⟩
    have HB := Lib.hid (hb.trans (hf.below (by simp) hb.size)); clear hb hf
    go_wp2
    go_ret
    exact ⟨rfl, HB.out⟩
end Go.Proofs.Ythoidlfaeabalaa
