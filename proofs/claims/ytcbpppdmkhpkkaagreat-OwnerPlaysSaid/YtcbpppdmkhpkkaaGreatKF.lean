/- Contracts and mathematics that the proofs of this seat stand on: MtTake, MtTakeC, MtTakeN, PkFail, MtTakeS, PkRead8, MtRepBy, MtRep8. -/
import Derived.Test.YtcbpppdmkhpkkaaGreatKE
import Derived.Test.YtcbpppdmkhpkkaaGreatKA
import Derived.Test.YtcbpppdmkhpkkaaGreatKD
import Derived.Deep.RegionLaw
/- What the reader takes, as the parser says; contract of takeSessions. -/
namespace Go.Proofs.YtcbpppdmkhpkkaaGreat
open Go.RowKit
/-- A thing is taken as the parser p says, or it is thrown. -/
def TkN (w : World) (rb cb db : Nat) (k : Nat) (ik : IntKind) (l : List Nat) (e : Ending) (w' : World) : Prop :=
  (∃ (n : Nat) (m : List Nat), pU k l = some (n, m) ∧ n < 256 ^ k ∧ e = .returned (.int ik (n : Nat)) ∧ Rdr w' rb cb db m ∧ Frm [rb] w w') ∨ (pU k l = none ∧ Thrown w rb cb 4 e w')
/-- So many of the rest are sessions: what is read, what is there still. -/
def TsRel (w : World) (rb cb db n : Nat) (l0 : List Nat) (s3 s6 : Value) (wr : World) : Prop :=
  ∃ (k : Nat) (a : Option Addr) (c an : Nat) (X : List Sn) (l : List Nat), k ≤ n ∧ s6 = .int .u16 (k : Nat) ∧ s3 = .slice a an c ∧ Hid (an = k) ∧ Hid (X.length = k) ∧ Hid (SOwn wr w.heap.size 142 [rb, cb, db] a c X) ∧ Hid (Rdr wr rb cb db l) ∧ Hid (Frm [rb] w wr) ∧ Hid (pXs n l0 = (pXs (n - k) l).bind fun b => some (X ++ b.1, b.2))
def TkX (w : World) (rb cb db : Nat) (l : List Nat) (e : Ending) (w' : World) : Prop :=
  (∃ X m a c, pCX l = some (X, m) ∧ X.length < 65536 ∧ e = .returned (.slice a X.length c) ∧ SOwn w' w.heap.size 142 [rb, cb, db] a c X ∧ Rdr w' rb cb db m ∧ Frm [rb] w w') ∨ (pCX l = none ∧ Thrown w rb cb 4 e w')
end Go.Proofs.YtcbpppdmkhpkkaaGreat
/- Bytes taken as the parser says, in memory of their own; contract of takeCommand. -/
namespace Go.Proofs.YtcbpppdmkhpkkaaGreat
open Go.RowKit
set_option maxRecDepth 100000
/-- What Bytes hands back lies in memory of its own. -/
def GotNew (w : World) (rb cb db : Nat) (l : List Nat) (n : Nat) (e : Ending) (w' : World) : Prop :=
  ∃ a cap, e = .returned (.slice a n cap) ∧ Bytes w' a ((l.drop 4).take n) ∧ (a = none → cap = 0) ∧ (∀ q, a = some q → w.heap.size ≤ q.block) ∧ Rdr w' rb cb db (l.drop (4 + n)) ∧ Frm [rb] w w'
/-- Counted bytes are taken as the parser says, or it is thrown. -/
def TkB (w : World) (rb cb db : Nat) (l : List Nat) (e : Ending) (w' : World) : Prop :=
  (∃ (v m : List Nat) (a : Option Addr) (n c : Nat), pB l = some (v, m) ∧ Hid (n = v.length) ∧ e = .returned (.slice a n c) ∧ Bytes w' a v ∧ (a = none → c = 0) ∧ Hid (∀ q, a = some q → w.heap.size ≤ q.block) ∧ Rdr w' rb cb db m ∧ Frm [rb] w w') ∨ (pB l = none ∧ Thrown w rb cb 4 e w')
/-- What takeCommand answers. -/
def TkC (w : World) (rb cb db k : Nat) (l : List Nat) (e : Ending) (w' : World) : Prop :=
  (∃ c m a cap, pC k l = some (c, m) ∧ e = .returned (cmdV c a cap) ∧ Bytes w' a c.val ∧ (a = none → cap = 0) ∧ (∀ q, a = some q → w.heap.size ≤ q.block) ∧ Rdr w' rb cb db m ∧ Frm [rb] w w') ∨ (pC k l = none ∧ Thrown w rb cb 4 e w')

/-- The six stores of a command into its own block. -/
theorem TkC.stored {w w0 w1 w2 w5 : World} {rb cb db g k : Nat} {l v1 v2 m1 m2 m3 m4 m5 : List Nat} {x3 x4 x5 n2 c2 : Nat} {a2 : Option Addr} (hg : g = w.heap.size) (hf0 : Frm [] w w0) (hgr : g ≠ rb ∧ g ≠ cb ∧ g ≠ db)
    (hW : Whole w5 g 42 #[.int .u8 0, .string ⟨#[]⟩, .slice none 0 0, .int .u64 0, .int .u64 0, .int .u64 0]) (hglt : g < w0.heap.size)
    (hp1 : pB l = some (v1, m1)) (hp2 : pB m1 = some (v2, m2)) (hp3 : pU 8 m2 = some (x3, m3)) (hp4 : pU 8 m3 = some (x4, m4)) (hp5 : pU 8 m4 = some (x5, m5)) (hn2 : n2 = v2.length)
    (hb2 : Bytes w2 a2 v2) (hl2 : a2 = none → c2 = 0) (hnw2 : ∀ q, a2 = some q → w1.heap.size ≤ q.block) (h01 : Frm [rb] w0 w1) (h12 : Frm [rb] w1 w2) (hrb : rb < w0.heap.size) (h25 : Frm [rb] w2 w5) (hr5 : Rdr w5 rb cb db m5)
    {wz : World} (hz : wz = (((((w5.setCell ⟨g, 0, none⟩ (.int .u8 (k : Nat))).setCell ⟨g, 1, none⟩ (.string (strOf v1))).setCell ⟨g, 2, none⟩ (.slice a2 n2 c2)).setCell ⟨g, 3, none⟩ (.int .u64 (x3 : Nat))).setCell ⟨g, 4, none⟩ (.int .u64 (x4 : Nat))).setCell ⟨g, 5, none⟩ (.int .u64 (x5 : Nat))) :
    Whole wz g 42 #[.int .u8 (k : Nat), .string (strOf v1), .slice a2 n2 c2, .int .u64 (x3 : Nat), .int .u64 (x4 : Nat), .int .u64 (x5 : Nat)] ∧
    TkC w rb cb db k l (.returned (.agg #[.int .u8 (k : Nat), .string (strOf v1), .slice a2 n2 c2, .int .u64 (x3 : Nat), .int .u64 (x4 : Nat), .int .u64 (x5 : Nat)])) wz := by
  have hwz : Whole wz g 42 #[.int .u8 (k : Nat), .string (strOf v1), .slice a2 n2 c2, .int .u64 (x3 : Nat), .int .u64 (x4 : Nat), .int .u64 (x5 : Nat)] := by
    rw [hz]
    exact (((((hW.put 0 _).put 1 _).put 2 _).put 3 _).put 4 _).put 5 _
  have hfz : Frm [g] w5 wz := by
    rw [hz]
    exact ((((((Frm.refl _ _).setCell (.inl (by simp)) _).setCell (.inl (by simp)) _).setCell (.inl (by simp)) _).setCell (.inl (by simp)) _).setCell (.inl (by simp)) _).setCell (.inl (by simp)) _
  have hs1 := h01.size
  have hs0 := hf0.size
  refine ⟨hwz, .inl ⟨⟨k, strOf v1, v2, x3, x4, x5⟩, m5, a2, c2, ?_, ?_, ?_, hl2, ?_, ?_, ?_⟩⟩
  · unfold pC
    rw [hp1]; simp only [Option.bind_some]; rw [hp2]; simp only [Option.bind_some]; rw [hp3]; simp only [Option.bind_some]; rw [hp4]; simp only [Option.bind_some]; rw [hp5]; rfl
  · rw [hn2]; rfl
  · refine hfz.bytes (h25.bytes hb2 fun q hq hm => ?_) fun q hq hm => ?_
    · have := hnw2 q hq; simp at hm; omega
    · have := hnw2 q hq; simp at hm; omega
  · intro q hq
    have := hnw2 q hq; omega
  · exact hr5.keep hfz (by simp; exact fun h => hgr.1 h.symm) (by simp; exact fun h => hgr.2.1 h.symm) (by simp; exact fun h => hgr.2.2 h.symm)
  · exact ((hf0.trans h01 (U := [rb]) (by simp) (fun x hx => .inl hx)).trans (h12.trans h25 (U := [rb]) (fun x hx => hx) (fun x hx => .inl hx)) (U := [rb]) (fun x hx => hx) (fun x hx => .inl hx)).trans hfz (fun x hx => hx) (fun x hx => .inr (by simp at hx; omega))

end Go.Proofs.YtcbpppdmkhpkkaaGreat
/- Nodes taken as the parser says; contract of takeNodes. -/
namespace Go.Proofs.YtcbpppdmkhpkkaaGreat
open Go.RowKit
set_option maxRecDepth 100000
/-- So many of the rest are nodes: what is read, what is there still. -/
def TnRel (F : List Nat) (w : World) (rb cb db n : Nat) (l0 : List Nat) (s3 s6 : Value) (wr : World) : Prop :=
  ∃ (k : Nat) (a : Option Addr) (c an : Nat) (X : List Nx) (l : List Nat), k ≤ n ∧ s6 = .int .u16 (k : Nat) ∧ s3 = .slice a an c ∧ Hid (an = k) ∧ Hid (X.length = k) ∧ Hid (NOwn wr w.heap.size 58 (rb :: cb :: db :: F) a c X) ∧ Hid (Rdr wr rb cb db l) ∧ Hid (Frm [rb] w wr) ∧ Hid (pNs n l0 = (pNs (n - k) l).bind fun b => some (nds X ++ b.1, b.2))
def TkNs (F : List Nat) (w : World) (rb cb db : Nat) (l : List Nat) (e : Ending) (w' : World) : Prop :=
  (∃ X m a c, pCN l = some (nds X, m) ∧ X.length < 65536 ∧ e = .returned (.slice a X.length c) ∧ NOwn w' w.heap.size 58 (rb :: cb :: db :: F) a c X ∧ Rdr w' rb cb db m ∧ Frm [rb] w w') ∨ (pCN l = none ∧ Thrown w rb cb 4 e w')
end Go.Proofs.YtcbpppdmkhpkkaaGreat
/- Contract of the reader's Fail. -/
namespace Go.Proofs.YtcbpppdmkhpkkaaGreat
open Go.RowKit
set_option maxRecDepth 100000
end Go.Proofs.YtcbpppdmkhpkkaaGreat
/- A state taken as the parser says; contract of takeState. -/
namespace Go.Proofs.YtcbpppdmkhpkkaaGreat
open Go.RowKit
set_option maxRecDepth 100000
def TkS (F : List Nat) (w : World) (rb cb db : Nat) (l : List Nat) (e : Ending) (w' : World) : Prop :=
  (∃ S m tp bp, pS l = some (S, m) ∧ pOk S ∧ e = .returned (.agg #[.int .u64 (S.now : Nat), .pointer (some ⟨tp, 0, none⟩), .pointer (some ⟨bp, 0, none⟩)]) ∧ Kd w' w.heap.size F tp bp S.nodes S.last S.ses ∧ Rdr w' rb cb db m ∧ Frm [rb] w w') ∨
  ((∀ S m, pS l = some (S, m) → ¬ pOk S) ∧ ∃ c : Nat, c ≠ 0 ∧ Thrown w rb cb c e w')
end Go.Proofs.YtcbpppdmkhpkkaaGreat
/- Contract of Read, with a word on where its own blocks lie. -/
namespace Go.Proofs.YtcbpppdmkhpkkaaGreat
open Go.RowKit
set_option maxRecDepth 100000
def ReadRet8 (w : World) (Q : World → Int → Prop) (e : Ending) (w' : World) : Prop :=
  ∃ w2 c T, e = .returned (.int .i64 c) ∧ Q w2 c ∧ Frm T w2 w' ∧ ∀ x ∈ T, w.heap.size ≤ x ∧ x < w.heap.size + 2
theorem Told.two {w w1 : World} {rb cb db : Nat} {l : List Nat} (h : Told w w1 rb cb db l) : w.heap.size + 2 ≤ w1.heap.size := by
  have h1 := h.rdr.lt
  have h2 := h.rdr.ne
  have h3 := h.hr
  have h4 := h.hc
  omega
set_option maxHeartbeats 1000000 in
theorem read_ret8 (G : FuncId) (cp : Array Value) (a : Option Addr) (n cap : Nat) (l : List Nat) (w : World) (Q : World → List Nat → Prop) (hl : Bytes w a l) (hn : n = l.length) (hnil : a = none → cap = 0) (hfit : n ≤ 140737488355328)
    (hG : ∀ args w, (callFunc G args).run Tryz.prog w = .ok (.enter G args) w)
    (hby : ∀ w1 rb cb db, Told w w1 rb cb db l → Calls Tryz.prog G (#[.pointer (some ⟨rb, 0, none⟩)] ++ cp) w1 (ByRet w w1 rb cb db Q)) :
    Calls Tryz.prog 72 #[.slice a n cap, .func (.func G) #[] cp] w (ReadRet8 w fun w2 c => ∃ rest, Q w2 rest ∧ c = if rest = [] then 0 else 5) := by
  have hmf : ∀ (fn : Fn) (first cap : Array Value) (w : World), (Instr.makeFunc fn first cap).run Tryz.prog w = .ok (.func fn first cap) w := fun _ _ _ _ => rfl
  have hq : ∀ (w : World), (binOp .eql 147 (.func (.func G) #[] cp) .nilFunc).run Tryz.prog w = .ok (.bool false) w := by
    intro w; kernel_rfl
  have HB := Lib.hid hby; clear hby
  have HL := Lib.hid hl; clear hl
  have HN := Lib.hid hn; clear hn
  go_enter_defers Tryz.func72, Tryz.ntmps72
  go_wp2
  clear hq
  obtain ⟨w0, hw0⟩ : ∃ w0, w0 = ((w.alloc (Obj.cells #[Value.int IntKind.i64 0] 43)).alloc (Obj.cells #[Value.bool false, Value.int IntKind.i64 0] 184)).alloc (Obj.cells #[Value.pointer (some ⟨w.heap.size + 1, 0, none⟩)] 182) := ⟨_, rfl⟩
  rw [← hw0]
  obtain ⟨eb, heb⟩ : ∃ eb, eb = w.heap.size := ⟨_, rfl⟩
  obtain ⟨cb, hcb⟩ : ∃ cb, cb = w.heap.size + 1 := ⟨_, rfl⟩
  obtain ⟨ob, hob⟩ : ∃ ob, ob = w.heap.size + 1 + 1 := ⟨_, rfl⟩
  have he0 : Whole w0 eb 43 #[.int .i64 0] := by rw [hw0, heb]; exact ((Whole.made w _ _).alloc _).alloc _
  have hc0 : Whole w0 cb 184 #[.bool false, .int .i64 0] := by rw [hw0, hcb]; exact (Whole.made' _ _ (by simp)).alloc _
  have ho0 : Whole w0 ob 182 #[.pointer (some ⟨cb, 0, none⟩)] := by rw [hw0, hob, hcb]; exact Whole.made' _ _ (by simp)
  have hf0 : Frm [] w w0 := by rw [hw0]; exact (((Frm.refl _ _).alloc _).alloc _).alloc _
  rw [← hob, ← hcb, ← heb]
  have hsz : w0.heap.size = w.heap.size + 3 := by rw [hw0]; simp
  clear hw0
  have k0 := ho0.cell 0
  simp at k0
  have hoblt := ho0.lt
  have HE := Lib.hid he0; clear he0
  have HC := Lib.hid hc0; clear hc0
  have HO := Lib.hid ho0; clear ho0
  have HF := Lib.hid hf0; clear hf0
  have E1 := Lib.hid heb; clear heb
  have E2 := Lib.hid hcb; clear hcb
  have E3 := Lib.hid hob; clear hob
  have E4 := Lib.hid hsz; clear hsz
  go_region_held3 (fun w' => w'.cell? ⟨ob, 0, none⟩ = some (.pointer (some ⟨cb, 0, none⟩))) (first | go_keep | (rw [hfrm.cell (by simpa using hoblt) (by simp)]; assumption)) ((go_at_call 88; refine (clone_any a n cap l _ (HF.out.drew.bytes HL.out (by simp)) HN.out hnil hfit).mono ?_; rintro e w1 ⟨a', cap', rfl, hown, hfrm⟩))
  obtain ⟨db, htold⟩ := told_mk HL.out.1 HC.out HO.out HF.out E2.out E3.out hown hfrm
  have ho1 := (hfrm.undrew.whole HO.out (by simp)).alloc (.cells #[.slice a' l.length cap', .pointer (some ⟨cb, 0, none⟩)] 186)
  have he1 := (hfrm.undrew.whole HE.out (by simp)).alloc (.cells #[.slice a' l.length cap', .pointer (some ⟨cb, 0, none⟩)] 186)
  have hne1 : ob < w1.heap.size := Nat.lt_of_lt_of_le HO.out.lt hfrm.undrew.size
  have hne2 : eb < w1.heap.size := Nat.lt_of_lt_of_le HE.out.lt hfrm.undrew.size
  clear hown hfrm
  obtain ⟨W, hW⟩ : ∃ W, W = w1.alloc (Obj.cells #[Value.slice a' l.length cap', Value.pointer (some ⟨cb, 0, none⟩)] 186) := ⟨_, rfl⟩
  rw [← hW] at htold ho1 he1 ⊢
  obtain ⟨rb, hrb⟩ : ∃ rb, rb = w1.heap.size := ⟨_, rfl⟩
  rw [← hrb] at htold hne1 hne2 ⊢
  clear hW hrb
  have HT := Lib.hid htold; clear htold
  have HO1 := Lib.hid ho1; clear ho1
  have HE1 := Lib.hid he1; clear he1
  clear k0 hoblt
  go_wp2_with fail
  refine (HB.out _ _ _ _ HT.out).mono ?_
  rintro e w2 ⟨rfl, rest, S, hQ, hr2, hS, hx⟩
  have hTf := HT.out.frm
  have hlW1 : eb < W.heap.size := HE1.out.lt
  have hlW2 : ob < W.heap.size := HO1.out.lt
  have nS : ∀ y, w.heap.size ≤ y → y < W.heap.size → y ≠ rb → y ≠ cb → y ∉ S := by
    intro y h1 h2 h3 h4 hm
    rcases hx y hm with h | h | h | h <;> omega
  have ho2 := hS.whole HO1.out (nS ob (by have := E3.out; omega) hlW2 (by omega) (by have := E2.out; have := E3.out; omega))
  have he2 := hS.whole HE1.out (nS eb (by have := E1.out; omega) hlW1 (by omega) (by have := E2.out; have := E1.out; omega))
  have hcge : w.heap.size ≤ cb := HT.out.hc
  have hege : w.heap.size ≤ eb := by have := E1.out; omega
  have d1 : eb ≠ ob := by have := E1.out; have := E3.out; omega
  have d2 : eb ≠ cb := by have := E1.out; have := E2.out; omega
  clear nS hTf hlW1 hlW2 hx hS
  have k2 := ho2.cell 0
  have k3 := he2.cell 0
  have k4 := he2.free 0
  simp at k2 k3
  obtain ⟨ra, rcap, _, hcw, _⟩ := id hr2
  obtain ⟨c, hc⟩ : ∃ c : Int, c = if rest = [] then 0 else 5 := ⟨_, rfl⟩
  have EN := Lib.hid (end_any hr2 c hc)
  have HQ : Hid (∃ rest, Q w2 rest ∧ c = if rest = [] then 0 else 5) := ⟨rest, hQ, hc⟩
  have HE2 := Lib.hid (he2.put 0 (.int .i64 c)); clear he2
  have HO2 := Lib.hid (ho2.other (p := ⟨eb, 0, none⟩) (Ne.symm d1) (.int .i64 c)); clear ho2
  have HC2 := Lib.hid (hcw.other (p := ⟨eb, 0, none⟩) (Ne.symm d2) (.int .i64 c)); clear hcw
  clear hc hQ hr2
  go_wp2_with (go_at_call 108; refine EN.out.mono ?_; rintro e w' ⟨rfl, rfl⟩)
  refine leaves_cons (f := 107) (args := #[.pointer (some ⟨ob, 0, none⟩), .pointer (some ⟨eb, 0, none⟩)]) (by simp) (by simp [go_sem]) ?_
  refine (d_idle ob cb eb 0 _ HO2.out HC2.out).mono ?_
  rintro e u' w'' ⟨rfl, rfl, rfl⟩
  have r0 := (HE2.out.other (p := ⟨cb, 0, none⟩) d2 (.bool true)).cell 0
  simp at r0
  have FIN : ReadRet8 w (fun w2 c => ∃ rest, Q w2 rest ∧ c = if rest = [] then 0 else 5) (.returned (.int .i64 c)) ((w2.setCell ⟨eb, 0, none⟩ (.int .i64 c)).setCell ⟨cb, 0, none⟩ (.bool true)) :=
    ⟨w2, c, [eb, cb], rfl, HQ.out, ((Frm.refl _ _).setCell (.inl (by simp)) _).setCell (.inl (by simp)) _, by have e1 := E1.out; have e2 := E2.out; simp; omega⟩
  simp [Leaves, settle, results, Tryz.results72, go_sem, r0]
  exact FIN

set_option maxHeartbeats 1000000 in
theorem read_throw8 (G : FuncId) (cp : Array Value) (a : Option Addr) (n cap : Nat) (l : List Nat) (w : World) (Q : World → Prop) (P : Int → Prop) (hl : Bytes w a l) (hn : n = l.length) (hnil : a = none → cap = 0) (hfit : n ≤ 140737488355328)
    (hG : ∀ args w, (callFunc G args).run Tryz.prog w = .ok (.enter G args) w)
    (hby : ∀ w1 rb cb db, Told w w1 rb cb db l → Calls Tryz.prog G (#[.pointer (some ⟨rb, 0, none⟩)] ++ cp) w1 (fun e w2 => ∃ c, P c ∧ ByThrow w w1 rb cb c Q e w2)) :
    Calls Tryz.prog 72 #[.slice a n cap, .func (.func G) #[] cp] w (ReadRet8 w fun w2 c' => Q w2 ∧ P c') := by
  have hmf : ∀ (fn : Fn) (first cap : Array Value) (w : World), (Instr.makeFunc fn first cap).run Tryz.prog w = .ok (.func fn first cap) w := fun _ _ _ _ => rfl
  have hq : ∀ (w : World), (binOp .eql 147 (.func (.func G) #[] cp) .nilFunc).run Tryz.prog w = .ok (.bool false) w := by
    intro w; kernel_rfl
  have HB := Lib.hid hby; clear hby
  have HL := Lib.hid hl; clear hl
  have HN := Lib.hid hn; clear hn
  go_enter_defers Tryz.func72, Tryz.ntmps72
  go_wp2
  clear hq
  obtain ⟨w0, hw0⟩ : ∃ w0, w0 = ((w.alloc (Obj.cells #[Value.int IntKind.i64 0] 43)).alloc (Obj.cells #[Value.bool false, Value.int IntKind.i64 0] 184)).alloc (Obj.cells #[Value.pointer (some ⟨w.heap.size + 1, 0, none⟩)] 182) := ⟨_, rfl⟩
  rw [← hw0]
  obtain ⟨eb, heb⟩ : ∃ eb, eb = w.heap.size := ⟨_, rfl⟩
  obtain ⟨cb, hcb⟩ : ∃ cb, cb = w.heap.size + 1 := ⟨_, rfl⟩
  obtain ⟨ob, hob⟩ : ∃ ob, ob = w.heap.size + 1 + 1 := ⟨_, rfl⟩
  have he0 : Whole w0 eb 43 #[.int .i64 0] := by rw [hw0, heb]; exact ((Whole.made w _ _).alloc _).alloc _
  have hc0 : Whole w0 cb 184 #[.bool false, .int .i64 0] := by rw [hw0, hcb]; exact (Whole.made' _ _ (by simp)).alloc _
  have ho0 : Whole w0 ob 182 #[.pointer (some ⟨cb, 0, none⟩)] := by rw [hw0, hob, hcb]; exact Whole.made' _ _ (by simp)
  have hf0 : Frm [] w w0 := by rw [hw0]; exact (((Frm.refl _ _).alloc _).alloc _).alloc _
  rw [← hob, ← hcb, ← heb]
  have hsz : w0.heap.size = w.heap.size + 3 := by rw [hw0]; simp
  clear hw0
  have k0 := ho0.cell 0
  simp at k0
  have hoblt := ho0.lt
  have HE := Lib.hid he0; clear he0
  have HC := Lib.hid hc0; clear hc0
  have HO := Lib.hid ho0; clear ho0
  have HF := Lib.hid hf0; clear hf0
  have E1 := Lib.hid heb; clear heb
  have E2 := Lib.hid hcb; clear hcb
  have E3 := Lib.hid hob; clear hob
  have E4 := Lib.hid hsz; clear hsz
  go_region_held3 (fun w' => w'.cell? ⟨ob, 0, none⟩ = some (.pointer (some ⟨cb, 0, none⟩))) (first | go_keep | (rw [hfrm.cell (by simpa using hoblt) (by simp)]; assumption)) ((go_at_call 88; refine (clone_any a n cap l _ (HF.out.drew.bytes HL.out (by simp)) HN.out hnil hfit).mono ?_; rintro e w1 ⟨a', cap', rfl, hown, hfrm⟩))
  obtain ⟨db, htold⟩ := told_mk HL.out.1 HC.out HO.out HF.out E2.out E3.out hown hfrm
  have ho1 := (hfrm.undrew.whole HO.out (by simp)).alloc (.cells #[.slice a' l.length cap', .pointer (some ⟨cb, 0, none⟩)] 186)
  have he1 := (hfrm.undrew.whole HE.out (by simp)).alloc (.cells #[.slice a' l.length cap', .pointer (some ⟨cb, 0, none⟩)] 186)
  have hne1 : ob < w1.heap.size := Nat.lt_of_lt_of_le HO.out.lt hfrm.undrew.size
  have hne2 : eb < w1.heap.size := Nat.lt_of_lt_of_le HE.out.lt hfrm.undrew.size
  clear hown hfrm
  obtain ⟨W, hW⟩ : ∃ W, W = w1.alloc (Obj.cells #[Value.slice a' l.length cap', Value.pointer (some ⟨cb, 0, none⟩)] 186) := ⟨_, rfl⟩
  rw [← hW] at htold ho1 he1 ⊢
  obtain ⟨rb, hrb⟩ : ∃ rb, rb = w1.heap.size := ⟨_, rfl⟩
  rw [← hrb] at htold hne1 hne2 ⊢
  clear hW hrb
  have HT := Lib.hid htold; clear htold
  have HO1 := Lib.hid ho1; clear ho1
  have HE1 := Lib.hid he1; clear he1
  clear k0 hoblt
  go_wp2_with fail
  refine (HB.out _ _ _ _ HT.out).mono ?_
  rintro e w2 ⟨c, hPc, rfl, S, hQ, hcw, hS, hx⟩
  have hTf := HT.out.frm
  have hlW1 : eb < W.heap.size := HE1.out.lt
  have hlW2 : ob < W.heap.size := HO1.out.lt
  have nS : ∀ y, w.heap.size ≤ y → y < W.heap.size → y ≠ rb → y ≠ cb → y ∉ S := by
    intro y h1 h2 h3 h4 hm
    rcases hx y hm with h | h | h | h <;> omega
  have ho2 := hS.whole HO1.out (nS ob (by have := E3.out; omega) hlW2 (by omega) (by have := E2.out; have := E3.out; omega))
  have he2 := hS.whole HE1.out (nS eb (by have := E1.out; omega) hlW1 (by omega) (by have := E2.out; have := E1.out; omega))
  have hcge : w.heap.size ≤ cb := HT.out.hc
  have hege : w.heap.size ≤ eb := by have := E1.out; omega
  have d1 : eb ≠ ob := by have := E1.out; have := E3.out; omega
  have d2 : eb ≠ cb := by have := E1.out; have := E2.out; omega
  clear nS hTf hlW1 hlW2 hx hS
  refine leaves_cons (f := 107) (args := #[.pointer (some ⟨ob, 0, none⟩), .pointer (some ⟨eb, 0, none⟩)]) (by simp) (by simp [go_sem]) ?_
  refine (d_own ob cb eb c 0 [] _ ho2 hcw he2).mono ?_
  rintro e u' w'' ⟨rfl, rfl, rfl⟩
  have r0 := ((he2.other (p := ⟨cb, 0, none⟩) d2 (.bool true)).put 0 (.int .i64 c)).cell 0
  simp at r0
  have FIN : ReadRet8 w (fun w2 c' => Q w2 ∧ P c') (.returned (.int .i64 c)) ((w2.setCell ⟨cb, 0, none⟩ (.bool true)).setCell ⟨eb, 0, none⟩ (.int .i64 c)) :=
    ⟨w2, c, [eb, cb], rfl, ⟨hQ, hPc⟩, ((Frm.refl _ _).setCell (.inl (by simp)) _).setCell (.inl (by simp)) _, by have e1 := E1.out; have e2 := E2.out; simp; omega⟩
  simp [Leaves, settle, results, Tryz.results72, go_sem, r0]
  exact FIN
end Go.Proofs.YtcbpppdmkhpkkaaGreat
/- What replay's reader does with a record: contract of the closure. -/
namespace Go.Proofs.YtcbpppdmkhpkkaaGreat
open Go.RowKit
set_option maxRecDepth 100000
def preS (r : Option (MS × List Nat)) : Option (MS × List Nat) := match r with
  | some (S', m) => if pOk S' then some (S', m) else none
  | none => none
def preC (S : MS) (r : Option (MC × List Nat)) : Option (MS × List Nat) := match r with
  | some (c, m) => if doE S c = 0 then some (doS S c, m) else none
  | none => none
/-- What a record makes of a state, and what is left of it. -/
def pre1 (S : MS) (b : List Nat) : Option (MS × List Nat) := (pU 1 b).bind fun a => if a.1 = 7 then preS (pS a.2) else preC S (pC a.1 a.2)
/-- What the closure leaves. -/
def ByEnd (w : World) (B : Nat) (F : List Nat) (p tp bp rb cb db : Nat) (S : MS) (b : List Nat) (e : Ending) (w' : World) : Prop :=
  (∃ S' m tq bq, pre1 S b = some (S', m) ∧ e = .returned (.tuple #[]) ∧ Ms w' B F p tq bq S' ∧ Rdr w' rb cb db m ∧ Frm [rb, p, tp, bp] w w') ∨
  (pre1 S b = none ∧ ∃ c : Nat, c ≠ 0 ∧ e = .panicked [{ v := .iface 182 (.pointer (some ⟨cb, 0, none⟩)), recovered := false }] ∧ Whole w' cb 184 #[.bool false, .int .i64 (c : Nat)] ∧ Frm [rb, cb, p, tp, bp] w w')

end Go.Proofs.YtcbpppdmkhpkkaaGreat
/- Contract of replay. -/
namespace Go.Proofs.YtcbpppdmkhpkkaaGreat
open Go.RowKit
set_option maxRecDepth 100000
end Go.Proofs.YtcbpppdmkhpkkaaGreat
