/- Contract of Read, whatever is handed over as by: by how by is left. -/
import Derived.Test.YtpamiglinmfgkaaDoorPkReadD
import Derived.Laws.EntriesVeiled
namespace Go.Proofs.YtpamiglinmfgkaaDoor
open Go.RowKit

/-- What by is told: where its reader is, and that nothing else of old has turned. -/
structure Told (w w1 : World) (rb cb db : Nat) (l : List Nat) : Prop where
  frm : Frm [] w w1
  rdr : Rdr w1 rb cb db l
  hr : w.heap.size ≤ rb
  hc : w.heap.size ≤ cb
  hd : w.heap.size ≤ db
  dlt : db < w1.heap.size

/-- What by leaves where it returns: so much left (rest), the caller's own word (Q), and of what stood when it was called nothing but its reader, and what is older than Read, has turned. -/
def ByRet (w w1 : World) (rb cb db : Nat) (Q : World → List Nat → Prop) (e : Ending) (w2 : World) : Prop :=
  e = .returned (.tuple #[]) ∧ ∃ rest S, Q w2 rest ∧ Rdr w2 rb cb db rest ∧ Frm S w1 w2 ∧ ∀ x ∈ S, x = rb ∨ x = cb ∨ x < w.heap.size ∨ w1.heap.size ≤ x

/-- The same where by throws what its reader throws, with the code c. -/
def ByThrow (w w1 : World) (rb cb : Nat) (c : Int) (Q : World → Prop) (e : Ending) (w2 : World) : Prop :=
  e = .panicked [{ v := .iface 45 (.pointer (some ⟨cb, 0, none⟩)), recovered := false }] ∧ ∃ S, Q w2 ∧ Whole w2 cb 47 #[.bool false, .int .i64 c] ∧ Frm S w1 w2 ∧ ∀ x ∈ S, x = rb ∨ x = cb ∨ x < w.heap.size ∨ w1.heap.size ≤ x
/-- The same where by panics with an int. -/
def ByPanic (w w1 : World) (rb cb : Nat) (m : Int) (Q : World → Prop) (e : Ending) (w2 : World) : Prop :=
  e = .panicked [{ v := .iface 3 (.int .i64 m), recovered := false }] ∧ ∃ S c, Q w2 ∧ Whole w2 cb 47 #[.bool false, .int .i64 c] ∧ Frm S w1 w2 ∧ ∀ x ∈ S, x = rb ∨ x = cb ∨ x < w.heap.size ∨ w1.heap.size ≤ x

/-- What Read leaves: its answer; the world that by left, but for Read's own blocks. -/
def ReadRet (w : World) (Q : World → Int → Prop) (e : Ending) (w' : World) : Prop :=
  ∃ w2 c T, e = .returned (.int .i64 c) ∧ Q w2 c ∧ Frm T w2 w' ∧ ∀ x ∈ T, w.heap.size ≤ x

def ReadPanics (w : World) (m : Int) (Q : World → Prop) (e : Ending) (w' : World) : Prop :=
  ∃ w2 T, e = .panicked [{ v := .iface 3 (.int .i64 m), recovered := false }, { v := .iface 3 (.int .i64 m), recovered := true }] ∧ Q w2 ∧ Frm T w2 w' ∧ ∀ x ∈ T, w.heap.size ≤ x

theorem end_any {w : World} {rb cb db : Nat} {l : List Nat} (h : Rdr w rb cb db l) (c : Int) (hc : c = if l = [] then 0 else 5) :
    Calls Tryd.prog 19 #[.pointer (some ⟨cb, 0, none⟩), .pointer (some ⟨rb, 0, none⟩)] w fun e w' => e = .returned (.int .i64 c) ∧ w = w' := by
  have H := Lib.hid h
  obtain ⟨a, cap, _, h2, _⟩ := h
  have c1 := h2.cell 1
  simp at c1
  clear h2
  have HC := Lib.hid hc; clear hc
  by_cases hl : l = []
  · have hc0 : c = 0 := by rw [HC.out, if_pos hl]
    have h0 : l.length = 0 := by rw [hl]; rfl
    subst hc0
    have HL := Lib.hid hl; clear hl HC
    go_enter Tryd.func19, Tryd.ntmps19
    go_wp2_with (go_at_call 9; refine (left_any H.out).mono ?_; rintro e w' ⟨rfl, rfl⟩)
    go_ret
    exact ⟨rfl, rfl⟩
  · have hc5 : c = 5 := by rw [HC.out, if_neg hl]
    have h0 : 0 < l.length := by cases l with | nil => exact absurd rfl hl | cons _ _ => simp
    subst hc5
    clear hl HC
    go_enter Tryd.func19, Tryd.ntmps19
    go_wp2_with (go_at_call 9; refine (left_any H.out).mono ?_; rintro e w' ⟨rfl, rfl⟩)
    go_ret
    exact ⟨rfl, rfl⟩

theorem Whole.made' {w : World} (t : TypeId) (cs : Array Value) {g : Nat} (hg : g = w.heap.size) : Whole (w.alloc (.cells cs t)) g t cs := by subst hg; exact Whole.made w t cs

/-- Where Read calls by. -/
theorem told_mk {w w0 w1 : World} {cb ob : Nat} {l : List Nat} {a' : Option Addr} {cap' : Nat} (h8 : ∀ c ∈ l, c < 256) (hc : Whole w0 cb 47 #[.bool false, .int .i64 0]) (ho : Whole w0 ob 45 #[.pointer (some ⟨cb, 0, none⟩)])
    (hf : Frm [] w w0) (e2 : cb = w.heap.size + 1) (e3 : ob = w.heap.size + 1 + 1) (hown : w1.ownsRow w0.drew.heap.size 5 1 (.slice a' l.length cap') l.length (l.map u8v)) (hfrm : Frm [] w0.drew w1) :
    ∃ db, Told w (w1.alloc (.cells #[.slice a' l.length cap', .pointer (some ⟨cb, 0, none⟩)] 50)) w1.heap.size cb db l := by
  have hf1 : Frm [] w w1 := hf.drew.trans hfrm (by simp) (by simp)
  have hc1 : Whole w1 cb _ _ := hfrm.undrew.whole hc (by simp)
  have ho1 : Whole w1 ob _ _ := hfrm.undrew.whole ho (by simp)
  have hb := bytes_of_own hown h8
  have hcap : l.length ≤ cap' ∧ cap' ≤ 9223372036854775807 := by
    rcases hown.2 with ⟨h, h0⟩ | ⟨g, cap, cur, hv, _, _, hnc, hm, _⟩
    · injection h with _ _ h; omega
    · injection hv with _ _ h; unfold maxLen at hm; omega
  have hlt := hc1.lt
  have hlo := ho1.lt
  have mk : ∀ db, (∀ x, a' = some x → x.block = db) → w.heap.size ≤ db → db < w1.heap.size → db ≠ cb → Told w (w1.alloc (.cells #[.slice a' l.length cap', .pointer (some ⟨cb, 0, none⟩)] 50)) w1.heap.size cb db l := by
    intro db h1 h2 h3 h4
    exact ⟨hf1.alloc _, ⟨a', cap', Whole.made _ _ _, hc1.alloc _, ((Frm.refl [] w1).alloc _).bytes hb.2.1 (by simp), hcap.1, hcap.2, hb.2.2, h1, by omega, h4⟩, by omega, by omega, h2, by simp; omega⟩
  cases ha : a' with
  | none => exact ⟨ob, by rw [← ha]; exact mk ob (by rw [ha]; intro x hx; cases hx) (by omega) hlo (by omega)⟩
  | some x =>
    have hx := hown.lt x.block (by rw [ha]; rfl)
    have h0 : w.heap.size ≤ w0.heap.size := hf.size
    have h1 : w0.drew.heap.size = w0.heap.size := rfl
    have hc0 := hc.lt
    exact ⟨x.block, by rw [← ha]; exact mk x.block (by rw [ha]; intro y hy; cases hy; rfl) (by omega) hx.2 (by omega)⟩

set_option maxHeartbeats 1000000 in
theorem read_ret (G : FuncId) (cp : Array Value) (a : Option Addr) (n cap : Nat) (l : List Nat) (w : World) (Q : World → List Nat → Prop) (hl : Bytes w a l) (hn : n = l.length) (hnil : a = none → cap = 0) (hfit : n ≤ 140737488355328)
    (hG : ∀ args w, (callFunc G args).run Tryd.prog w = .ok (.enter G args) w)
    (hby : ∀ w1 rb cb db, Told w w1 rb cb db l → Calls Tryd.prog G (#[.pointer (some ⟨rb, 0, none⟩)] ++ cp) w1 (ByRet w w1 rb cb db Q)) :
    Calls Tryd.prog 5 #[.slice a n cap, .func (.func G) #[] cp] w (ReadRet w fun w2 c => ∃ rest, Q w2 rest ∧ c = if rest = [] then 0 else 5) := by
  have hmf : ∀ (fn : Fn) (first cap : Array Value) (w : World), (Instr.makeFunc fn first cap).run Tryd.prog w = .ok (.func fn first cap) w := fun _ _ _ _ => rfl
  have hq : ∀ (w : World), (binOp .eql 34 (.func (.func G) #[] cp) .nilFunc).run Tryd.prog w = .ok (.bool false) w := by
    intro w; kernel_rfl
  have HB := Lib.hid hby; clear hby
  have HL := Lib.hid hl; clear hl
  have HN := Lib.hid hn; clear hn
  go_enter_defers Tryd.func5, Tryd.ntmps5
  go_wp2
  clear hq
  obtain ⟨w0, hw0⟩ : ∃ w0, w0 = ((w.alloc (Obj.cells #[Value.int IntKind.i64 0] 27)).alloc (Obj.cells #[Value.bool false, Value.int IntKind.i64 0] 47)).alloc (Obj.cells #[Value.pointer (some ⟨w.heap.size + 1, 0, none⟩)] 45) := ⟨_, rfl⟩
  rw [← hw0]
  obtain ⟨eb, heb⟩ : ∃ eb, eb = w.heap.size := ⟨_, rfl⟩
  obtain ⟨cb, hcb⟩ : ∃ cb, cb = w.heap.size + 1 := ⟨_, rfl⟩
  obtain ⟨ob, hob⟩ : ∃ ob, ob = w.heap.size + 1 + 1 := ⟨_, rfl⟩
  have he0 : Whole w0 eb 27 #[.int .i64 0] := by rw [hw0, heb]; exact ((Whole.made w _ _).alloc _).alloc _
  have hc0 : Whole w0 cb 47 #[.bool false, .int .i64 0] := by rw [hw0, hcb]; exact (Whole.made' _ _ (by simp)).alloc _
  have ho0 : Whole w0 ob 45 #[.pointer (some ⟨cb, 0, none⟩)] := by rw [hw0, hob, hcb]; exact Whole.made' _ _ (by simp)
  have hf0 : Frm [] w w0 := by rw [hw0]; exact (((Frm.refl _ _).alloc _).alloc _).alloc _
  rw [← hob, ← hcb, ← heb]
  have hsz : w0.heap.size = w.heap.size + 3 := by rw [hw0]; simp
  clear hw0
  have k0 := ho0.cell 0
  simp at k0
  have hoblt := ho0.lt
  have HE := Lib.hid he0; clear he0
  have HC := Lib.hid hc0; clear hc0
  have HO := Lib.hid ho0; clear ho0
  have HF := Lib.hid hf0; clear hf0
  have E1 := Lib.hid heb; clear heb
  have E2 := Lib.hid hcb; clear hcb
  have E3 := Lib.hid hob; clear hob
  have E4 := Lib.hid hsz; clear hsz
  go_region_held3 (fun w' => w'.cell? ⟨ob, 0, none⟩ = some (.pointer (some ⟨cb, 0, none⟩))) (first | go_keep | (rw [hfrm.cell (by simpa using hoblt) (by simp)]; assumption)) ((go_at_call 17; refine (clone_any a n cap l _ (HF.out.drew.bytes HL.out (by simp)) HN.out hnil hfit).mono ?_; rintro e w1 ⟨a', cap', rfl, hown, hfrm⟩))
  obtain ⟨db, htold⟩ := told_mk HL.out.1 HC.out HO.out HF.out E2.out E3.out hown hfrm
  have ho1 := (hfrm.undrew.whole HO.out (by simp)).alloc (.cells #[.slice a' l.length cap', .pointer (some ⟨cb, 0, none⟩)] 50)
  have he1 := (hfrm.undrew.whole HE.out (by simp)).alloc (.cells #[.slice a' l.length cap', .pointer (some ⟨cb, 0, none⟩)] 50)
  have hne1 : ob < w1.heap.size := Nat.lt_of_lt_of_le HO.out.lt hfrm.undrew.size
  have hne2 : eb < w1.heap.size := Nat.lt_of_lt_of_le HE.out.lt hfrm.undrew.size
  clear hown hfrm
  obtain ⟨W, hW⟩ : ∃ W, W = w1.alloc (Obj.cells #[Value.slice a' l.length cap', Value.pointer (some ⟨cb, 0, none⟩)] 50) := ⟨_, rfl⟩
  rw [← hW] at htold ho1 he1 ⊢
  obtain ⟨rb, hrb⟩ : ∃ rb, rb = w1.heap.size := ⟨_, rfl⟩
  rw [← hrb] at htold hne1 hne2 ⊢
  clear hW hrb
  have HT := Lib.hid htold; clear htold
  have HO1 := Lib.hid ho1; clear ho1
  have HE1 := Lib.hid he1; clear he1
  clear k0 hoblt
  go_wp2_with fail
  refine (HB.out _ _ _ _ HT.out).mono ?_
  rintro e w2 ⟨rfl, rest, S, hQ, hr2, hS, hx⟩
  have hTf := HT.out.frm
  have hlW1 : eb < W.heap.size := HE1.out.lt
  have hlW2 : ob < W.heap.size := HO1.out.lt
  have nS : ∀ y, w.heap.size ≤ y → y < W.heap.size → y ≠ rb → y ≠ cb → y ∉ S := by
    intro y h1 h2 h3 h4 hm
    rcases hx y hm with h | h | h | h <;> omega
  have ho2 := hS.whole HO1.out (nS ob (by have := E3.out; omega) hlW2 (by omega) (by have := E2.out; have := E3.out; omega))
  have he2 := hS.whole HE1.out (nS eb (by have := E1.out; omega) hlW1 (by omega) (by have := E2.out; have := E1.out; omega))
  have hcge : w.heap.size ≤ cb := HT.out.hc
  have hege : w.heap.size ≤ eb := by have := E1.out; omega
  have d1 : eb ≠ ob := by have := E1.out; have := E3.out; omega
  have d2 : eb ≠ cb := by have := E1.out; have := E2.out; omega
  clear nS hTf hlW1 hlW2 hx hS
  have k2 := ho2.cell 0
  have k3 := he2.cell 0
  have k4 := he2.free 0
  simp at k2 k3
  obtain ⟨ra, rcap, _, hcw, _⟩ := id hr2
  obtain ⟨c, hc⟩ : ∃ c : Int, c = if rest = [] then 0 else 5 := ⟨_, rfl⟩
  have EN := Lib.hid (end_any hr2 c hc)
  have HQ : Hid (∃ rest, Q w2 rest ∧ c = if rest = [] then 0 else 5) := ⟨rest, hQ, hc⟩
  have HE2 := Lib.hid (he2.put 0 (.int .i64 c)); clear he2
  have HO2 := Lib.hid (ho2.other (p := ⟨eb, 0, none⟩) (Ne.symm d1) (.int .i64 c)); clear ho2
  have HC2 := Lib.hid (hcw.other (p := ⟨eb, 0, none⟩) (Ne.symm d2) (.int .i64 c)); clear hcw
  clear hc hQ hr2
  go_wp2_with (go_at_call 19; refine EN.out.mono ?_; rintro e w' ⟨rfl, rfl⟩)
  refine leaves_cons (f := 18) (args := #[.pointer (some ⟨ob, 0, none⟩), .pointer (some ⟨eb, 0, none⟩)]) (by simp) (by simp [go_sem]) ?_
  refine (d_idle ob cb eb 0 _ HO2.out HC2.out).mono ?_
  rintro e u' w'' ⟨rfl, rfl, rfl⟩
  have r0 := (HE2.out.other (p := ⟨cb, 0, none⟩) d2 (.bool true)).cell 0
  simp at r0
  have FIN : ReadRet w (fun w2 c => ∃ rest, Q w2 rest ∧ c = if rest = [] then 0 else 5) (.returned (.int .i64 c)) ((w2.setCell ⟨eb, 0, none⟩ (.int .i64 c)).setCell ⟨cb, 0, none⟩ (.bool true)) :=
    ⟨w2, c, [eb, cb], rfl, HQ.out, ((Frm.refl _ _).setCell (.inl (by simp)) _).setCell (.inl (by simp)) _, by simp; omega⟩
  simp [Leaves, settle, results, Tryd.results5, go_sem, r0]
  exact FIN

set_option maxHeartbeats 1000000 in
theorem read_throw (G : FuncId) (cp : Array Value) (a : Option Addr) (n cap : Nat) (l : List Nat) (w : World) (Q : World → Prop) (c : Int) (hl : Bytes w a l) (hn : n = l.length) (hnil : a = none → cap = 0) (hfit : n ≤ 140737488355328)
    (hG : ∀ args w, (callFunc G args).run Tryd.prog w = .ok (.enter G args) w)
    (hby : ∀ w1 rb cb db, Told w w1 rb cb db l → Calls Tryd.prog G (#[.pointer (some ⟨rb, 0, none⟩)] ++ cp) w1 (ByThrow w w1 rb cb c Q)) :
    Calls Tryd.prog 5 #[.slice a n cap, .func (.func G) #[] cp] w (ReadRet w fun w2 c' => Q w2 ∧ c' = c) := by
  have hmf : ∀ (fn : Fn) (first cap : Array Value) (w : World), (Instr.makeFunc fn first cap).run Tryd.prog w = .ok (.func fn first cap) w := fun _ _ _ _ => rfl
  have hq : ∀ (w : World), (binOp .eql 34 (.func (.func G) #[] cp) .nilFunc).run Tryd.prog w = .ok (.bool false) w := by
    intro w; kernel_rfl
  have HB := Lib.hid hby; clear hby
  have HL := Lib.hid hl; clear hl
  have HN := Lib.hid hn; clear hn
  go_enter_defers Tryd.func5, Tryd.ntmps5
  go_wp2
  clear hq
  obtain ⟨w0, hw0⟩ : ∃ w0, w0 = ((w.alloc (Obj.cells #[Value.int IntKind.i64 0] 27)).alloc (Obj.cells #[Value.bool false, Value.int IntKind.i64 0] 47)).alloc (Obj.cells #[Value.pointer (some ⟨w.heap.size + 1, 0, none⟩)] 45) := ⟨_, rfl⟩
  rw [← hw0]
  obtain ⟨eb, heb⟩ : ∃ eb, eb = w.heap.size := ⟨_, rfl⟩
  obtain ⟨cb, hcb⟩ : ∃ cb, cb = w.heap.size + 1 := ⟨_, rfl⟩
  obtain ⟨ob, hob⟩ : ∃ ob, ob = w.heap.size + 1 + 1 := ⟨_, rfl⟩
  have he0 : Whole w0 eb 27 #[.int .i64 0] := by rw [hw0, heb]; exact ((Whole.made w _ _).alloc _).alloc _
  have hc0 : Whole w0 cb 47 #[.bool false, .int .i64 0] := by rw [hw0, hcb]; exact (Whole.made' _ _ (by simp)).alloc _
  have ho0 : Whole w0 ob 45 #[.pointer (some ⟨cb, 0, none⟩)] := by rw [hw0, hob, hcb]; exact Whole.made' _ _ (by simp)
  have hf0 : Frm [] w w0 := by rw [hw0]; exact (((Frm.refl _ _).alloc _).alloc _).alloc _
  rw [← hob, ← hcb, ← heb]
  have hsz : w0.heap.size = w.heap.size + 3 := by rw [hw0]; simp
  clear hw0
  have k0 := ho0.cell 0
  simp at k0
  have hoblt := ho0.lt
  have HE := Lib.hid he0; clear he0
  have HC := Lib.hid hc0; clear hc0
  have HO := Lib.hid ho0; clear ho0
  have HF := Lib.hid hf0; clear hf0
  have E1 := Lib.hid heb; clear heb
  have E2 := Lib.hid hcb; clear hcb
  have E3 := Lib.hid hob; clear hob
  have E4 := Lib.hid hsz; clear hsz
  go_region_held3 (fun w' => w'.cell? ⟨ob, 0, none⟩ = some (.pointer (some ⟨cb, 0, none⟩))) (first | go_keep | (rw [hfrm.cell (by simpa using hoblt) (by simp)]; assumption)) ((go_at_call 17; refine (clone_any a n cap l _ (HF.out.drew.bytes HL.out (by simp)) HN.out hnil hfit).mono ?_; rintro e w1 ⟨a', cap', rfl, hown, hfrm⟩))
  obtain ⟨db, htold⟩ := told_mk HL.out.1 HC.out HO.out HF.out E2.out E3.out hown hfrm
  have ho1 := (hfrm.undrew.whole HO.out (by simp)).alloc (.cells #[.slice a' l.length cap', .pointer (some ⟨cb, 0, none⟩)] 50)
  have he1 := (hfrm.undrew.whole HE.out (by simp)).alloc (.cells #[.slice a' l.length cap', .pointer (some ⟨cb, 0, none⟩)] 50)
  have hne1 : ob < w1.heap.size := Nat.lt_of_lt_of_le HO.out.lt hfrm.undrew.size
  have hne2 : eb < w1.heap.size := Nat.lt_of_lt_of_le HE.out.lt hfrm.undrew.size
  clear hown hfrm
  obtain ⟨W, hW⟩ : ∃ W, W = w1.alloc (Obj.cells #[Value.slice a' l.length cap', Value.pointer (some ⟨cb, 0, none⟩)] 50) := ⟨_, rfl⟩
  rw [← hW] at htold ho1 he1 ⊢
  obtain ⟨rb, hrb⟩ : ∃ rb, rb = w1.heap.size := ⟨_, rfl⟩
  rw [← hrb] at htold hne1 hne2 ⊢
  clear hW hrb
  have HT := Lib.hid htold; clear htold
  have HO1 := Lib.hid ho1; clear ho1
  have HE1 := Lib.hid he1; clear he1
  clear k0 hoblt
  go_wp2_with fail
  refine (HB.out _ _ _ _ HT.out).mono ?_
  rintro e w2 ⟨rfl, S, hQ, hcw, hS, hx⟩
  have hTf := HT.out.frm
  have hlW1 : eb < W.heap.size := HE1.out.lt
  have hlW2 : ob < W.heap.size := HO1.out.lt
  have nS : ∀ y, w.heap.size ≤ y → y < W.heap.size → y ≠ rb → y ≠ cb → y ∉ S := by
    intro y h1 h2 h3 h4 hm
    rcases hx y hm with h | h | h | h <;> omega
  have ho2 := hS.whole HO1.out (nS ob (by have := E3.out; omega) hlW2 (by omega) (by have := E2.out; have := E3.out; omega))
  have he2 := hS.whole HE1.out (nS eb (by have := E1.out; omega) hlW1 (by omega) (by have := E2.out; have := E1.out; omega))
  have hcge : w.heap.size ≤ cb := HT.out.hc
  have hege : w.heap.size ≤ eb := by have := E1.out; omega
  have d1 : eb ≠ ob := by have := E1.out; have := E3.out; omega
  have d2 : eb ≠ cb := by have := E1.out; have := E2.out; omega
  clear nS hTf hlW1 hlW2 hx hS
  refine leaves_cons (f := 18) (args := #[.pointer (some ⟨ob, 0, none⟩), .pointer (some ⟨eb, 0, none⟩)]) (by simp) (by simp [go_sem]) ?_
  refine (d_own ob cb eb c 0 [] _ ho2 hcw he2).mono ?_
  rintro e u' w'' ⟨rfl, rfl, rfl⟩
  have r0 := ((he2.other (p := ⟨cb, 0, none⟩) d2 (.bool true)).put 0 (.int .i64 c)).cell 0
  simp at r0
  have FIN : ReadRet w (fun w2 c' => Q w2 ∧ c' = c) (.returned (.int .i64 c)) ((w2.setCell ⟨cb, 0, none⟩ (.bool true)).setCell ⟨eb, 0, none⟩ (.int .i64 c)) :=
    ⟨w2, c, [eb, cb], rfl, ⟨hQ, rfl⟩, ((Frm.refl _ _).setCell (.inl (by simp)) _).setCell (.inl (by simp)) _, by simp; omega⟩
  simp [Leaves, settle, results, Tryd.results5, go_sem, r0]
  exact FIN

set_option maxHeartbeats 1000000 in
theorem read_panic (G : FuncId) (cp : Array Value) (a : Option Addr) (n cap : Nat) (l : List Nat) (w : World) (Q : World → Prop) (m : Int) (hl : Bytes w a l) (hn : n = l.length) (hnil : a = none → cap = 0) (hfit : n ≤ 140737488355328)
    (hG : ∀ args w, (callFunc G args).run Tryd.prog w = .ok (.enter G args) w)
    (hby : ∀ w1 rb cb db, Told w w1 rb cb db l → Calls Tryd.prog G (#[.pointer (some ⟨rb, 0, none⟩)] ++ cp) w1 (ByPanic w w1 rb cb m Q)) :
    Calls Tryd.prog 5 #[.slice a n cap, .func (.func G) #[] cp] w (ReadPanics w m Q) := by
  have hmf : ∀ (fn : Fn) (first cap : Array Value) (w : World), (Instr.makeFunc fn first cap).run Tryd.prog w = .ok (.func fn first cap) w := fun _ _ _ _ => rfl
  have hq : ∀ (w : World), (binOp .eql 34 (.func (.func G) #[] cp) .nilFunc).run Tryd.prog w = .ok (.bool false) w := by
    intro w; kernel_rfl
  have HB := Lib.hid hby; clear hby
  have HL := Lib.hid hl; clear hl
  have HN := Lib.hid hn; clear hn
  go_enter_defers Tryd.func5, Tryd.ntmps5
  go_wp2
  clear hq
  obtain ⟨w0, hw0⟩ : ∃ w0, w0 = ((w.alloc (Obj.cells #[Value.int IntKind.i64 0] 27)).alloc (Obj.cells #[Value.bool false, Value.int IntKind.i64 0] 47)).alloc (Obj.cells #[Value.pointer (some ⟨w.heap.size + 1, 0, none⟩)] 45) := ⟨_, rfl⟩
  rw [← hw0]
  obtain ⟨eb, heb⟩ : ∃ eb, eb = w.heap.size := ⟨_, rfl⟩
  obtain ⟨cb, hcb⟩ : ∃ cb, cb = w.heap.size + 1 := ⟨_, rfl⟩
  obtain ⟨ob, hob⟩ : ∃ ob, ob = w.heap.size + 1 + 1 := ⟨_, rfl⟩
  have he0 : Whole w0 eb 27 #[.int .i64 0] := by rw [hw0, heb]; exact ((Whole.made w _ _).alloc _).alloc _
  have hc0 : Whole w0 cb 47 #[.bool false, .int .i64 0] := by rw [hw0, hcb]; exact (Whole.made' _ _ (by simp)).alloc _
  have ho0 : Whole w0 ob 45 #[.pointer (some ⟨cb, 0, none⟩)] := by rw [hw0, hob, hcb]; exact Whole.made' _ _ (by simp)
  have hf0 : Frm [] w w0 := by rw [hw0]; exact (((Frm.refl _ _).alloc _).alloc _).alloc _
  rw [← hob, ← hcb, ← heb]
  have hsz : w0.heap.size = w.heap.size + 3 := by rw [hw0]; simp
  clear hw0
  have k0 := ho0.cell 0
  simp at k0
  have hoblt := ho0.lt
  have HE := Lib.hid he0; clear he0
  have HC := Lib.hid hc0; clear hc0
  have HO := Lib.hid ho0; clear ho0
  have HF := Lib.hid hf0; clear hf0
  have E1 := Lib.hid heb; clear heb
  have E2 := Lib.hid hcb; clear hcb
  have E3 := Lib.hid hob; clear hob
  have E4 := Lib.hid hsz; clear hsz
  go_region_held3 (fun w' => w'.cell? ⟨ob, 0, none⟩ = some (.pointer (some ⟨cb, 0, none⟩))) (first | go_keep | (rw [hfrm.cell (by simpa using hoblt) (by simp)]; assumption)) ((go_at_call 17; refine (clone_any a n cap l _ (HF.out.drew.bytes HL.out (by simp)) HN.out hnil hfit).mono ?_; rintro e w1 ⟨a', cap', rfl, hown, hfrm⟩))
  obtain ⟨db, htold⟩ := told_mk HL.out.1 HC.out HO.out HF.out E2.out E3.out hown hfrm
  have ho1 := (hfrm.undrew.whole HO.out (by simp)).alloc (.cells #[.slice a' l.length cap', .pointer (some ⟨cb, 0, none⟩)] 50)
  have he1 := (hfrm.undrew.whole HE.out (by simp)).alloc (.cells #[.slice a' l.length cap', .pointer (some ⟨cb, 0, none⟩)] 50)
  have hne1 : ob < w1.heap.size := Nat.lt_of_lt_of_le HO.out.lt hfrm.undrew.size
  have hne2 : eb < w1.heap.size := Nat.lt_of_lt_of_le HE.out.lt hfrm.undrew.size
  clear hown hfrm
  obtain ⟨W, hW⟩ : ∃ W, W = w1.alloc (Obj.cells #[Value.slice a' l.length cap', Value.pointer (some ⟨cb, 0, none⟩)] 50) := ⟨_, rfl⟩
  rw [← hW] at htold ho1 he1 ⊢
  obtain ⟨rb, hrb⟩ : ∃ rb, rb = w1.heap.size := ⟨_, rfl⟩
  rw [← hrb] at htold hne1 hne2 ⊢
  clear hW hrb
  have HT := Lib.hid htold; clear htold
  have HO1 := Lib.hid ho1; clear ho1
  have HE1 := Lib.hid he1; clear he1
  clear k0 hoblt
  go_wp2_with fail
  refine (HB.out _ _ _ _ HT.out).mono ?_
  rintro e w2 ⟨rfl, S, c, hQ, hcw, hS, hx⟩
  have hTf := HT.out.frm
  have hlW1 : eb < W.heap.size := HE1.out.lt
  have hlW2 : ob < W.heap.size := HO1.out.lt
  have nS : ∀ y, w.heap.size ≤ y → y < W.heap.size → y ≠ rb → y ≠ cb → y ∉ S := by
    intro y h1 h2 h3 h4 hm
    rcases hx y hm with h | h | h | h <;> omega
  have ho2 := hS.whole HO1.out (nS ob (by have := E3.out; omega) hlW2 (by omega) (by have := E2.out; have := E3.out; omega))
  have he2 := hS.whole HE1.out (nS eb (by have := E1.out; omega) hlW1 (by omega) (by have := E2.out; have := E1.out; omega))
  have hcge : w.heap.size ≤ cb := HT.out.hc
  have hege : w.heap.size ≤ eb := by have := E1.out; omega
  have d1 : eb ≠ ob := by have := E1.out; have := E3.out; omega
  have d2 : eb ≠ cb := by have := E1.out; have := E2.out; omega
  clear nS hTf hlW1 hlW2 hx hS
  refine leaves_cons (f := 18) (args := #[.pointer (some ⟨ob, 0, none⟩), .pointer (some ⟨eb, 0, none⟩)]) (by simp) (by simp [go_sem]) ?_
  refine (d_other ob cb eb c m [] _ ho2 hcw).mono ?_
  rintro e u' w'' ⟨rfl, rfl, rfl⟩
  exact ⟨w2, [cb], rfl, hQ, (Frm.refl _ _).setCell (.inl (by simp)) _, by simp; omega⟩
end Go.Proofs.YtpamiglinmfgkaaDoor
