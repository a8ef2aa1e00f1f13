/- Contract of Read, with a word on where its own blocks lie. -/
import Derived.Test.YtahhkffghhgojaaDoorMA
namespace Go.Proofs.YtahhkffghhgojaaDoor
open Go.RowKit
set_option maxRecDepth 100000
def ReadRet8 (w : World) (Q : World → Int → Prop) (e : Ending) (w' : World) : Prop :=
  ∃ w2 c T, e = .returned (.int .i64 c) ∧ Q w2 c ∧ Frm T w2 w' ∧ ∀ x ∈ T, w.heap.size ≤ x ∧ x < w.heap.size + 2
theorem Told.two {w w1 : World} {rb cb db : Nat} {l : List Nat} (h : Told w w1 rb cb db l) : w.heap.size + 2 ≤ w1.heap.size := by
  have h1 := h.rdr.lt
  have h2 := h.rdr.ne
  have h3 := h.hr
  have h4 := h.hc
  omega
set_option maxHeartbeats 1000000 in
theorem read_ret8 (G : FuncId) (cp : Array Value) (a : Option Addr) (n cap : Nat) (l : List Nat) (w : World) (Q : World → List Nat → Prop) (hl : Bytes w a l) (hn : n = l.length) (hnil : a = none → cap = 0) (hfit : n ≤ 140737488355328)
    (hG : ∀ args w, (callFunc G args).run Tryd.prog w = .ok (.enter G args) w)
    (hby : ∀ w1 rb cb db, Told w w1 rb cb db l → Calls Tryd.prog G (#[.pointer (some ⟨rb, 0, none⟩)] ++ cp) w1 (ByRet w w1 rb cb db Q)) :
    Calls Tryd.prog 17 #[.slice a n cap, .func (.func G) #[] cp] w (ReadRet8 w fun w2 c => ∃ rest, Q w2 rest ∧ c = if rest = [] then 0 else 5) := by
  have hmf : ∀ (fn : Fn) (first cap : Array Value) (w : World), (Instr.makeFunc fn first cap).run Tryd.prog w = .ok (.func fn first cap) w := fun _ _ _ _ => rfl
  have hq : ∀ (w : World), (binOp .eql 54 (.func (.func G) #[] cp) .nilFunc).run Tryd.prog w = .ok (.bool false) w := by
    intro w; kernel_rfl
  have HB := Lib.hid hby; clear hby
  have HL := Lib.hid hl; clear hl
  have HN := Lib.hid hn; clear hn
  go_enter_defers Tryd.func17, Tryd.ntmps17
  go_wp2
  clear hq
  obtain ⟨w0, hw0⟩ : ∃ w0, w0 = ((w.alloc (Obj.cells #[Value.int IntKind.i64 0] 33)).alloc (Obj.cells #[Value.bool false, Value.int IntKind.i64 0] 79)).alloc (Obj.cells #[Value.pointer (some ⟨w.heap.size + 1, 0, none⟩)] 77) := ⟨_, rfl⟩
  rw [← hw0]
  obtain ⟨eb, heb⟩ : ∃ eb, eb = w.heap.size := ⟨_, rfl⟩
  obtain ⟨cb, hcb⟩ : ∃ cb, cb = w.heap.size + 1 := ⟨_, rfl⟩
  obtain ⟨ob, hob⟩ : ∃ ob, ob = w.heap.size + 1 + 1 := ⟨_, rfl⟩
  have he0 : Whole w0 eb 33 #[.int .i64 0] := by rw [hw0, heb]; exact ((Whole.made w _ _).alloc _).alloc _
  have hc0 : Whole w0 cb 79 #[.bool false, .int .i64 0] := by rw [hw0, hcb]; exact (Whole.made' _ _ (by simp)).alloc _
  have ho0 : Whole w0 ob 77 #[.pointer (some ⟨cb, 0, none⟩)] := by rw [hw0, hob, hcb]; exact Whole.made' _ _ (by simp)
  have hf0 : Frm [] w w0 := by rw [hw0]; exact (((Frm.refl _ _).alloc _).alloc _).alloc _
  rw [← hob, ← hcb, ← heb]
  have hsz : w0.heap.size = w.heap.size + 3 := by rw [hw0]; simp
  clear hw0
  have k0 := ho0.cell 0
  simp at k0
  have hoblt := ho0.lt
  have HE := Lib.hid he0; clear he0
  have HC := Lib.hid hc0; clear hc0
  have HO := Lib.hid ho0; clear ho0
  have HF := Lib.hid hf0; clear hf0
  have E1 := Lib.hid heb; clear heb
  have E2 := Lib.hid hcb; clear hcb
  have E3 := Lib.hid hob; clear hob
  have E4 := Lib.hid hsz; clear hsz
  go_region_held3 (fun w' => w'.cell? ⟨ob, 0, none⟩ = some (.pointer (some ⟨cb, 0, none⟩))) (first | go_keep | (rw [hfrm.cell (by simpa using hoblt) (by simp)]; assumption)) ((go_at_call 31; refine (clone_any a n cap l _ (HF.out.drew.bytes HL.out (by simp)) HN.out hnil hfit).mono ?_; rintro e w1 ⟨a', cap', rfl, hown, hfrm⟩))
  obtain ⟨db, htold⟩ := told_mk HL.out.1 HC.out HO.out HF.out E2.out E3.out hown hfrm
  have ho1 := (hfrm.undrew.whole HO.out (by simp)).alloc (.cells #[.slice a' l.length cap', .pointer (some ⟨cb, 0, none⟩)] 82)
  have he1 := (hfrm.undrew.whole HE.out (by simp)).alloc (.cells #[.slice a' l.length cap', .pointer (some ⟨cb, 0, none⟩)] 82)
  have hne1 : ob < w1.heap.size := Nat.lt_of_lt_of_le HO.out.lt hfrm.undrew.size
  have hne2 : eb < w1.heap.size := Nat.lt_of_lt_of_le HE.out.lt hfrm.undrew.size
  clear hown hfrm
  obtain ⟨W, hW⟩ : ∃ W, W = w1.alloc (Obj.cells #[Value.slice a' l.length cap', Value.pointer (some ⟨cb, 0, none⟩)] 82) := ⟨_, rfl⟩
  rw [← hW] at htold ho1 he1 ⊢
  obtain ⟨rb, hrb⟩ : ∃ rb, rb = w1.heap.size := ⟨_, rfl⟩
  rw [← hrb] at htold hne1 hne2 ⊢
  clear hW hrb
  have HT := Lib.hid htold; clear htold
  have HO1 := Lib.hid ho1; clear ho1
  have HE1 := Lib.hid he1; clear he1
  clear k0 hoblt
  go_wp2_with fail
  refine (HB.out _ _ _ _ HT.out).mono ?_
  rintro e w2 ⟨rfl, rest, S, hQ, hr2, hS, hx⟩
  have hTf := HT.out.frm
  have hlW1 : eb < W.heap.size := HE1.out.lt
  have hlW2 : ob < W.heap.size := HO1.out.lt
  have nS : ∀ y, w.heap.size ≤ y → y < W.heap.size → y ≠ rb → y ≠ cb → y ∉ S := by
    intro y h1 h2 h3 h4 hm
    rcases hx y hm with h | h | h | h <;> omega
  have ho2 := hS.whole HO1.out (nS ob (by have := E3.out; omega) hlW2 (by omega) (by have := E2.out; have := E3.out; omega))
  have he2 := hS.whole HE1.out (nS eb (by have := E1.out; omega) hlW1 (by omega) (by have := E2.out; have := E1.out; omega))
  have hcge : w.heap.size ≤ cb := HT.out.hc
  have hege : w.heap.size ≤ eb := by have := E1.out; omega
  have d1 : eb ≠ ob := by have := E1.out; have := E3.out; omega
  have d2 : eb ≠ cb := by have := E1.out; have := E2.out; omega
  clear nS hTf hlW1 hlW2 hx hS
  have k2 := ho2.cell 0
  have k3 := he2.cell 0
  have k4 := he2.free 0
  simp at k2 k3
  obtain ⟨ra, rcap, _, hcw, _⟩ := id hr2
  obtain ⟨c, hc⟩ : ∃ c : Int, c = if rest = [] then 0 else 5 := ⟨_, rfl⟩
  have EN := Lib.hid (end_any hr2 c hc)
  have HQ : Hid (∃ rest, Q w2 rest ∧ c = if rest = [] then 0 else 5) := ⟨rest, hQ, hc⟩
  have HE2 := Lib.hid (he2.put 0 (.int .i64 c)); clear he2
  have HO2 := Lib.hid (ho2.other (p := ⟨eb, 0, none⟩) (Ne.symm d1) (.int .i64 c)); clear ho2
  have HC2 := Lib.hid (hcw.other (p := ⟨eb, 0, none⟩) (Ne.symm d2) (.int .i64 c)); clear hcw
  clear hc hQ hr2
  go_wp2_with (go_at_call 33; refine EN.out.mono ?_; rintro e w' ⟨rfl, rfl⟩)
  refine leaves_cons (f := 32) (args := #[.pointer (some ⟨ob, 0, none⟩), .pointer (some ⟨eb, 0, none⟩)]) (by simp) (by simp [go_sem]) ?_
  refine (d_idle ob cb eb 0 _ HO2.out HC2.out).mono ?_
  rintro e u' w'' ⟨rfl, rfl, rfl⟩
  have r0 := (HE2.out.other (p := ⟨cb, 0, none⟩) d2 (.bool true)).cell 0
  simp at r0
  have FIN : ReadRet8 w (fun w2 c => ∃ rest, Q w2 rest ∧ c = if rest = [] then 0 else 5) (.returned (.int .i64 c)) ((w2.setCell ⟨eb, 0, none⟩ (.int .i64 c)).setCell ⟨cb, 0, none⟩ (.bool true)) :=
    ⟨w2, c, [eb, cb], rfl, HQ.out, ((Frm.refl _ _).setCell (.inl (by simp)) _).setCell (.inl (by simp)) _, by have e1 := E1.out; have e2 := E2.out; simp; omega⟩
  simp [Leaves, settle, results, Tryd.results17, go_sem, r0]
  exact FIN

end Go.Proofs.YtahhkffghhgojaaDoor
