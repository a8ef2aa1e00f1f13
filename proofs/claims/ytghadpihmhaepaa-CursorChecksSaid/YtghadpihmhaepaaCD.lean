/- Contracts and mathematics that the proofs of this seat stand on: PkRead8, StrL, Str, PkRefPut, PkPutAny, PkNumber, PkWords, PkAwake, CrcMath, CrcFeed, CrcMore, CrcRef, PkFrame, Cut, PkUnframe, PkRefRead. -/
import Derived.Test.YtghadpihmhaepaaCC
import Derived.Test.YtghadpihmhaepaaCA
import Derived.Laws.BytesArg
import Derived.Lib.ConvBytes
import Derived.WalkKit
import Derived.Lib.Hide
import Derived.Laws.BitsAllLaws
import Derived.Laws.Slices
/- Contract of Read, with a word on where its own blocks lie. -/
namespace Go.Proofs.Ytghadpihmhaepaa
open Go.RowKit
set_option maxRecDepth 100000
def ReadRet8 (w : World) (Q : World → Int → Prop) (e : Ending) (w' : World) : Prop :=
  ∃ w2 c T, e = .returned (.int .i64 c) ∧ Q w2 c ∧ Frm T w2 w' ∧ ∀ x ∈ T, w.heap.size ≤ x ∧ x < w.heap.size + 2
theorem Told.two {w w1 : World} {rb cb db : Nat} {l : List Nat} (h : Told w w1 rb cb db l) : w.heap.size + 2 ≤ w1.heap.size := by
  have h1 := h.rdr.lt
  have h2 := h.rdr.ne
  have h3 := h.hr
  have h4 := h.hc
  omega
set_option maxHeartbeats 1000000 in
theorem read_ret8 (G : FuncId) (cp : Array Value) (a : Option Addr) (n cap : Nat) (l : List Nat) (w : World) (Q : World → List Nat → Prop) (hl : Bytes w a l) (hn : n = l.length) (hnil : a = none → cap = 0) (hfit : n ≤ 140737488355328)
    (hG : ∀ args w, (callFunc G args).run Try.prog w = .ok (.enter G args) w)
    (hby : ∀ w1 rb cb db, Told w w1 rb cb db l → Calls Try.prog G (#[.pointer (some ⟨rb, 0, none⟩)] ++ cp) w1 (ByRet w w1 rb cb db Q)) :
    Calls Try.prog 61 #[.slice a n cap, .func (.func G) #[] cp] w (ReadRet8 w fun w2 c => ∃ rest, Q w2 rest ∧ c = if rest = [] then 0 else 5) := by
  have hmf : ∀ (fn : Fn) (first cap : Array Value) (w : World), (Instr.makeFunc fn first cap).run Try.prog w = .ok (.func fn first cap) w := fun _ _ _ _ => rfl
  have hq : ∀ (w : World), (binOp .eql 100 (.func (.func G) #[] cp) .nilFunc).run Try.prog w = .ok (.bool false) w := by
    intro w; kernel_rfl
  have HB := Lib.hid hby; clear hby
  have HL := Lib.hid hl; clear hl
  have HN := Lib.hid hn; clear hn
  go_enter_defers Try.func61, Try.ntmps61
  go_wp2
  clear hq
  obtain ⟨w0, hw0⟩ : ∃ w0, w0 = ((w.alloc (Obj.cells #[Value.int IntKind.i64 0] 34)).alloc (Obj.cells #[Value.bool false, Value.int IntKind.i64 0] 125)).alloc (Obj.cells #[Value.pointer (some ⟨w.heap.size + 1, 0, none⟩)] 123) := ⟨_, rfl⟩
  rw [← hw0]
  obtain ⟨eb, heb⟩ : ∃ eb, eb = w.heap.size := ⟨_, rfl⟩
  obtain ⟨cb, hcb⟩ : ∃ cb, cb = w.heap.size + 1 := ⟨_, rfl⟩
  obtain ⟨ob, hob⟩ : ∃ ob, ob = w.heap.size + 1 + 1 := ⟨_, rfl⟩
  have he0 : Whole w0 eb 34 #[.int .i64 0] := by rw [hw0, heb]; exact ((Whole.made w _ _).alloc _).alloc _
  have hc0 : Whole w0 cb 125 #[.bool false, .int .i64 0] := by rw [hw0, hcb]; exact (Whole.made' _ _ (by simp)).alloc _
  have ho0 : Whole w0 ob 123 #[.pointer (some ⟨cb, 0, none⟩)] := by rw [hw0, hob, hcb]; exact Whole.made' _ _ (by simp)
  have hf0 : Frm [] w w0 := by rw [hw0]; exact (((Frm.refl _ _).alloc _).alloc _).alloc _
  rw [← hob, ← hcb, ← heb]
  have hsz : w0.heap.size = w.heap.size + 3 := by rw [hw0]; simp
  clear hw0
  have k0 := ho0.cell 0
  simp at k0
  have hoblt := ho0.lt
  have HE := Lib.hid he0; clear he0
  have HC := Lib.hid hc0; clear hc0
  have HO := Lib.hid ho0; clear ho0
  have HF := Lib.hid hf0; clear hf0
  have E1 := Lib.hid heb; clear heb
  have E2 := Lib.hid hcb; clear hcb
  have E3 := Lib.hid hob; clear hob
  have E4 := Lib.hid hsz; clear hsz
  go_region_held3 (fun w' => w'.cell? ⟨ob, 0, none⟩ = some (.pointer (some ⟨cb, 0, none⟩))) (first | go_keep | (rw [hfrm.cell (by simpa using hoblt) (by simp)]; assumption)) ((go_at_call 84; refine (clone_any a n cap l _ (HF.out.drew.bytes HL.out (by simp)) HN.out hnil hfit).mono ?_; rintro e w1 ⟨a', cap', rfl, hown, hfrm⟩))
  obtain ⟨db, htold⟩ := told_mk HL.out.1 HC.out HO.out HF.out E2.out E3.out hown hfrm
  have ho1 := (hfrm.undrew.whole HO.out (by simp)).alloc (.cells #[.slice a' l.length cap', .pointer (some ⟨cb, 0, none⟩)] 127)
  have he1 := (hfrm.undrew.whole HE.out (by simp)).alloc (.cells #[.slice a' l.length cap', .pointer (some ⟨cb, 0, none⟩)] 127)
  have hne1 : ob < w1.heap.size := Nat.lt_of_lt_of_le HO.out.lt hfrm.undrew.size
  have hne2 : eb < w1.heap.size := Nat.lt_of_lt_of_le HE.out.lt hfrm.undrew.size
  clear hown hfrm
  obtain ⟨W, hW⟩ : ∃ W, W = w1.alloc (Obj.cells #[Value.slice a' l.length cap', Value.pointer (some ⟨cb, 0, none⟩)] 127) := ⟨_, rfl⟩
  rw [← hW] at htold ho1 he1 ⊢
  obtain ⟨rb, hrb⟩ : ∃ rb, rb = w1.heap.size := ⟨_, rfl⟩
  rw [← hrb] at htold hne1 hne2 ⊢
  clear hW hrb
  have HT := Lib.hid htold; clear htold
  have HO1 := Lib.hid ho1; clear ho1
  have HE1 := Lib.hid he1; clear he1
  clear k0 hoblt
  go_wp2_with fail
  refine (HB.out _ _ _ _ HT.out).mono ?_
  rintro e w2 ⟨rfl, rest, S, hQ, hr2, hS, hx⟩
  have hTf := HT.out.frm
  have hlW1 : eb < W.heap.size := HE1.out.lt
  have hlW2 : ob < W.heap.size := HO1.out.lt
  have nS : ∀ y, w.heap.size ≤ y → y < W.heap.size → y ≠ rb → y ≠ cb → y ∉ S := by
    intro y h1 h2 h3 h4 hm
    rcases hx y hm with h | h | h | h <;> omega
  have ho2 := hS.whole HO1.out (nS ob (by have := E3.out; omega) hlW2 (by omega) (by have := E2.out; have := E3.out; omega))
  have he2 := hS.whole HE1.out (nS eb (by have := E1.out; omega) hlW1 (by omega) (by have := E2.out; have := E1.out; omega))
  have hcge : w.heap.size ≤ cb := HT.out.hc
  have hege : w.heap.size ≤ eb := by have := E1.out; omega
  have d1 : eb ≠ ob := by have := E1.out; have := E3.out; omega
  have d2 : eb ≠ cb := by have := E1.out; have := E2.out; omega
  clear nS hTf hlW1 hlW2 hx hS
  have k2 := ho2.cell 0
  have k3 := he2.cell 0
  have k4 := he2.free 0
  simp at k2 k3
  obtain ⟨ra, rcap, _, hcw, _⟩ := id hr2
  obtain ⟨c, hc⟩ : ∃ c : Int, c = if rest = [] then 0 else 5 := ⟨_, rfl⟩
  have EN := Lib.hid (end_any hr2 c hc)
  have HQ : Hid (∃ rest, Q w2 rest ∧ c = if rest = [] then 0 else 5) := ⟨rest, hQ, hc⟩
  have HE2 := Lib.hid (he2.put 0 (.int .i64 c)); clear he2
  have HO2 := Lib.hid (ho2.other (p := ⟨eb, 0, none⟩) (Ne.symm d1) (.int .i64 c)); clear ho2
  have HC2 := Lib.hid (hcw.other (p := ⟨eb, 0, none⟩) (Ne.symm d2) (.int .i64 c)); clear hcw
  clear hc hQ hr2
  go_wp2_with (go_at_call 86; refine EN.out.mono ?_; rintro e w' ⟨rfl, rfl⟩)
  refine leaves_cons (f := 85) (args := #[.pointer (some ⟨ob, 0, none⟩), .pointer (some ⟨eb, 0, none⟩)]) (by simp) (by simp [go_sem]) ?_
  refine (d_idle ob cb eb 0 _ HO2.out HC2.out).mono ?_
  rintro e u' w'' ⟨rfl, rfl, rfl⟩
  have r0 := (HE2.out.other (p := ⟨cb, 0, none⟩) d2 (.bool true)).cell 0
  simp at r0
  have FIN : ReadRet8 w (fun w2 c => ∃ rest, Q w2 rest ∧ c = if rest = [] then 0 else 5) (.returned (.int .i64 c)) ((w2.setCell ⟨eb, 0, none⟩ (.int .i64 c)).setCell ⟨cb, 0, none⟩ (.bool true)) :=
    ⟨w2, c, [eb, cb], rfl, HQ.out, ((Frm.refl _ _).setCell (.inl (by simp)) _).setCell (.inl (by simp)) _, by have e1 := E1.out; have e2 := E2.out; simp; omega⟩
  simp [Leaves, settle, results, Try.results61, go_sem, r0]
  exact FIN

set_option maxHeartbeats 1000000 in
theorem read_throw8 (G : FuncId) (cp : Array Value) (a : Option Addr) (n cap : Nat) (l : List Nat) (w : World) (Q : World → Prop) (P : Int → Prop) (hl : Bytes w a l) (hn : n = l.length) (hnil : a = none → cap = 0) (hfit : n ≤ 140737488355328)
    (hG : ∀ args w, (callFunc G args).run Try.prog w = .ok (.enter G args) w)
    (hby : ∀ w1 rb cb db, Told w w1 rb cb db l → Calls Try.prog G (#[.pointer (some ⟨rb, 0, none⟩)] ++ cp) w1 (fun e w2 => ∃ c, P c ∧ ByThrow w w1 rb cb c Q e w2)) :
    Calls Try.prog 61 #[.slice a n cap, .func (.func G) #[] cp] w (ReadRet8 w fun w2 c' => Q w2 ∧ P c') := by
  have hmf : ∀ (fn : Fn) (first cap : Array Value) (w : World), (Instr.makeFunc fn first cap).run Try.prog w = .ok (.func fn first cap) w := fun _ _ _ _ => rfl
  have hq : ∀ (w : World), (binOp .eql 100 (.func (.func G) #[] cp) .nilFunc).run Try.prog w = .ok (.bool false) w := by
    intro w; kernel_rfl
  have HB := Lib.hid hby; clear hby
  have HL := Lib.hid hl; clear hl
  have HN := Lib.hid hn; clear hn
  go_enter_defers Try.func61, Try.ntmps61
  go_wp2
  clear hq
  obtain ⟨w0, hw0⟩ : ∃ w0, w0 = ((w.alloc (Obj.cells #[Value.int IntKind.i64 0] 34)).alloc (Obj.cells #[Value.bool false, Value.int IntKind.i64 0] 125)).alloc (Obj.cells #[Value.pointer (some ⟨w.heap.size + 1, 0, none⟩)] 123) := ⟨_, rfl⟩
  rw [← hw0]
  obtain ⟨eb, heb⟩ : ∃ eb, eb = w.heap.size := ⟨_, rfl⟩
  obtain ⟨cb, hcb⟩ : ∃ cb, cb = w.heap.size + 1 := ⟨_, rfl⟩
  obtain ⟨ob, hob⟩ : ∃ ob, ob = w.heap.size + 1 + 1 := ⟨_, rfl⟩
  have he0 : Whole w0 eb 34 #[.int .i64 0] := by rw [hw0, heb]; exact ((Whole.made w _ _).alloc _).alloc _
  have hc0 : Whole w0 cb 125 #[.bool false, .int .i64 0] := by rw [hw0, hcb]; exact (Whole.made' _ _ (by simp)).alloc _
  have ho0 : Whole w0 ob 123 #[.pointer (some ⟨cb, 0, none⟩)] := by rw [hw0, hob, hcb]; exact Whole.made' _ _ (by simp)
  have hf0 : Frm [] w w0 := by rw [hw0]; exact (((Frm.refl _ _).alloc _).alloc _).alloc _
  rw [← hob, ← hcb, ← heb]
  have hsz : w0.heap.size = w.heap.size + 3 := by rw [hw0]; simp
  clear hw0
  have k0 := ho0.cell 0
  simp at k0
  have hoblt := ho0.lt
  have HE := Lib.hid he0; clear he0
  have HC := Lib.hid hc0; clear hc0
  have HO := Lib.hid ho0; clear ho0
  have HF := Lib.hid hf0; clear hf0
  have E1 := Lib.hid heb; clear heb
  have E2 := Lib.hid hcb; clear hcb
  have E3 := Lib.hid hob; clear hob
  have E4 := Lib.hid hsz; clear hsz
  go_region_held3 (fun w' => w'.cell? ⟨ob, 0, none⟩ = some (.pointer (some ⟨cb, 0, none⟩))) (first | go_keep | (rw [hfrm.cell (by simpa using hoblt) (by simp)]; assumption)) ((go_at_call 84; refine (clone_any a n cap l _ (HF.out.drew.bytes HL.out (by simp)) HN.out hnil hfit).mono ?_; rintro e w1 ⟨a', cap', rfl, hown, hfrm⟩))
  obtain ⟨db, htold⟩ := told_mk HL.out.1 HC.out HO.out HF.out E2.out E3.out hown hfrm
  have ho1 := (hfrm.undrew.whole HO.out (by simp)).alloc (.cells #[.slice a' l.length cap', .pointer (some ⟨cb, 0, none⟩)] 127)
  have he1 := (hfrm.undrew.whole HE.out (by simp)).alloc (.cells #[.slice a' l.length cap', .pointer (some ⟨cb, 0, none⟩)] 127)
  have hne1 : ob < w1.heap.size := Nat.lt_of_lt_of_le HO.out.lt hfrm.undrew.size
  have hne2 : eb < w1.heap.size := Nat.lt_of_lt_of_le HE.out.lt hfrm.undrew.size
  clear hown hfrm
  obtain ⟨W, hW⟩ : ∃ W, W = w1.alloc (Obj.cells #[Value.slice a' l.length cap', Value.pointer (some ⟨cb, 0, none⟩)] 127) := ⟨_, rfl⟩
  rw [← hW] at htold ho1 he1 ⊢
  obtain ⟨rb, hrb⟩ : ∃ rb, rb = w1.heap.size := ⟨_, rfl⟩
  rw [← hrb] at htold hne1 hne2 ⊢
  clear hW hrb
  have HT := Lib.hid htold; clear htold
  have HO1 := Lib.hid ho1; clear ho1
  have HE1 := Lib.hid he1; clear he1
  clear k0 hoblt
  go_wp2_with fail
  refine (HB.out _ _ _ _ HT.out).mono ?_
  rintro e w2 ⟨c, hPc, rfl, S, hQ, hcw, hS, hx⟩
  have hTf := HT.out.frm
  have hlW1 : eb < W.heap.size := HE1.out.lt
  have hlW2 : ob < W.heap.size := HO1.out.lt
  have nS : ∀ y, w.heap.size ≤ y → y < W.heap.size → y ≠ rb → y ≠ cb → y ∉ S := by
    intro y h1 h2 h3 h4 hm
    rcases hx y hm with h | h | h | h <;> omega
  have ho2 := hS.whole HO1.out (nS ob (by have := E3.out; omega) hlW2 (by omega) (by have := E2.out; have := E3.out; omega))
  have he2 := hS.whole HE1.out (nS eb (by have := E1.out; omega) hlW1 (by omega) (by have := E2.out; have := E1.out; omega))
  have hcge : w.heap.size ≤ cb := HT.out.hc
  have hege : w.heap.size ≤ eb := by have := E1.out; omega
  have d1 : eb ≠ ob := by have := E1.out; have := E3.out; omega
  have d2 : eb ≠ cb := by have := E1.out; have := E2.out; omega
  clear nS hTf hlW1 hlW2 hx hS
  refine leaves_cons (f := 85) (args := #[.pointer (some ⟨ob, 0, none⟩), .pointer (some ⟨eb, 0, none⟩)]) (by simp) (by simp [go_sem]) ?_
  refine (d_own ob cb eb c 0 [] _ ho2 hcw he2).mono ?_
  rintro e u' w'' ⟨rfl, rfl, rfl⟩
  have r0 := ((he2.other (p := ⟨cb, 0, none⟩) d2 (.bool true)).put 0 (.int .i64 c)).cell 0
  simp at r0
  have FIN : ReadRet8 w (fun w2 c' => Q w2 ∧ P c') (.returned (.int .i64 c)) ((w2.setCell ⟨cb, 0, none⟩ (.bool true)).setCell ⟨eb, 0, none⟩ (.int .i64 c)) :=
    ⟨w2, c, [eb, cb], rfl, ⟨hQ, hPc⟩, ((Frm.refl _ _).setCell (.inl (by simp)) _).setCell (.inl (by simp)) _, by have e1 := E1.out; have e2 := E2.out; simp; omega⟩
  simp [Leaves, settle, results, Try.results61, go_sem, r0]
  exact FIN
end Go.Proofs.Ytghadpihmhaepaa
/- A string's bytes as a list. They speak of no program. -/
namespace Go.Proofs.Ytghadpihmhaepaa
open Go.RowKit

/-- A string's bytes. -/
def strL (s : ByteArray) : List Nat := s.data.toList.map UInt8.toNat
end Go.Proofs.Ytghadpihmhaepaa
/- 'string(b)' of whatever slice of bytes; strings of lists of bytes. They speak of no program. -/
namespace Go.Proofs.Ytghadpihmhaepaa
open Go.RowKit

/-- The string of these bytes. -/
def strOf (l : List Nat) : ByteArray := ⟨(l.map fun c => UInt8.ofNat c).toArray⟩
theorem strOf_nums (l : List Nat) : strOfNums (l.map fun c : Nat => (c : Int)) = strOf l := by
  apply ByteArray.ext
  apply Array.toList_inj.1
  rw [strOfNums_data]
  simp [strOf]
theorem run_to_string {P : Program} {w : World} {src dst e : TypeId} (hs : P.underlying src = some (.slice e)) (he : P.underlying e = some (.int .u8)) (hd : P.underlying dst = some .string)
    {a : Option Addr} {n c : Nat} {l : List Nat} (hl : Bytes w a l) (hn : n = l.length) : (convert src dst (.slice a n c)).run P w = .ok (.string (strOf l)) w := by
  subst hn
  cases a with
  | none =>
    have h0 : l = [] := by
      rcases hl.2.2 with h | ⟨b, off, h, _⟩
      · exact h
      · cases h
    subst h0
    rw [run_convert_bytes_nil w src e hs he _ _ dst hd]
    rfl
  | some x =>
    rcases hl.2.2 with h | ⟨b, off, h, hc⟩
    · subst h
      rw [run_convert_bytes_string w src dst e _ _ _ hs he hd, run_bytesToString w x _ _ [] (by simp [loadCells, loadCellsFrom])]
      rfl
    · cases h
      rw [run_convert_bytes_arg w src e hs he b off l.length c (l.map fun c : Nat => (c : Int)) (by simp) (fun i hi => by rw [hc i hi]; simp [hi]) dst hd, strOf_nums]
end Go.Proofs.Ytghadpihmhaepaa
/- Contracts of the reference's Put and PutBytes: a number's bytes, or how many and they, behind a row of the call's own. -/
namespace Go.Proofs.Ytghadpihmhaepaa
open Go.RowKit

/-- The block of an address. -/
def ob : Option Addr → List Nat
  | some x => [x.block]
  | none => []
theorem ob_some {a : Option Addr} {n c g : Nat} : (Value.slice a n c).ownBlock = some g ↔ g ∈ ob a := by cases a <;> simp [Value.ownBlock, ob, eq_comm]

/-- What putting the bytes b behind an own row leaves. -/
def RPut (w : World) (base : Nat) (a : Option Addr) (l b : List Nat) (e : Ending) (w' : World) : Prop :=
  ∃ a' cap', e = .returned (.slice a' (l ++ b).length cap') ∧ w'.ownsRow base 5 1 (.slice a' (l ++ b).length cap') (l ++ b).length ((l ++ b).map u8v) ∧ Frm (ob a) w w' ∧
    ∀ g ∈ ob a', g ∈ ob a ∨ w.heap.size ≤ g

theorem be_getD (k n m : Nat) (hm : m < k) : (be k n).getD m 0 = n / 256 ^ (k - 1 - m) % 256 := by
  induction k generalizing n with
  | zero => omega
  | succ k ih =>
    by_cases h : m < k
    · have e : (be (k + 1) n).getD m 0 = (be k (n / 256)).getD m 0 := by
        simp [be, List.getD, List.getElem?_append, be_length, h]
      rw [e, ih _ h, Nat.div_div_eq_div_mul, show k + 1 - 1 - m = (k - 1 - m) + 1 by omega, Nat.pow_succ, Nat.mul_comm]
    · have : m = k := by omega
      subst this
      simp [be, List.getD, be_length]
theorem be_take_succ (k n m : Nat) (hm : m < k) : (be k n).take (m + 1) = (be k n).take m ++ [n / 256 ^ (k - 1 - m) % 256] := by
  rw [take_snoc_getD (by rw [be_length]; exact hm), be_getD k n m hm]

theorem one_byte (w : World) (y : Nat) (t : TypeId) : Bytes (w.alloc (.cells #[.int .u8 ((y : Int) % 256)] t)) (some ⟨w.heap.size, 0, none⟩) [y % 256] := by
  refine ⟨fun c hc => by simp at hc; omega, by simp, .inr ⟨_, _, rfl, fun i hi => ?_⟩⟩
  simp at hi
  subst hi
  rw [(Whole.made w t _).cell]
  rfl
/-- What holds at the head of Put's loop: so many bytes are put. -/
def RpRel (base k ln n : Nat) (a : Option Addr) (l : List Nat) (w : World) (b i : Value) (wr : World) : Prop :=
  ∃ (m : Nat) (a' : Option Addr) (cap' : Nat), m ≤ k ∧ i = .int .i64 ((k : Int) - 1 - m) ∧ b = .slice a' (ln + m) cap' ∧
      wr.ownsRow base 5 1 (.slice a' (ln + m) cap') (ln + m) ((l ++ (be k n).take m).map u8v) ∧ Frm (ob a) w wr ∧ ∀ g ∈ ob a', g ∈ ob a ∨ w.heap.size ≤ g
theorem rp_step {base k ln n m : Nat} {a a' a2 : Option Addr} {cap' cap2 : Nat} {l : List Nat} {w wr wx w2 : World} {c : Nat} {b2 i2 : Value} (hm : m < k) (hc : c = n / 256 ^ (k - 1 - m) % 256)
    (hf : Frm (ob a) w wr) (hg : ∀ g ∈ ob a', g ∈ ob a ∨ w.heap.size ≤ g) (hx : Frm [] wr wx)
    (h : App wx w2 base 5 (.slice a' (ln + m) cap') (ln + m) 1 ((l ++ (be k n).take m).map u8v) [c] a2 cap2) (hi : i2 = .int .i64 ((k : Int) - 1 - (m + 1 : Nat))) (hb : b2 = .slice a2 (ln + m + 1) cap2) :
    RpRel base k ln n a l w b2 i2 w2 := by
  refine ⟨m + 1, a2, cap2, by omega, hi, by rw [hb]; rfl, ?_, ?_, ?_⟩
  · have := h.own
    rw [← List.map_append, List.append_assoc, hc, ← be_take_succ k n m hm] at this
    exact this
  · refine (hf.trans hx (fun x h => h) (by simp)).grown h.grown ?_
    intro g hgg
    exact hg g (ob_some.1 hgg)
  · intro g hgg
    rcases h.place with hp | hp
    · exact hg g (ob_some.1 (hp ▸ ob_some.2 hgg))
    · have := (ob_some (n := ln + m + 1) (c := cap2)).2 hgg
      rw [hp] at this
      right
      have h1 := hx.size
      have h2 := hf.size
      simp at this
      omega

set_option maxRecDepth 100000 in
set_option maxHeartbeats 2000000 in
theorem ref_put_any (base : Nat) (a : Option Addr) (cap : Nat) (l : List Nat) (n k : Nat) (w : World) (hown : w.ownsRow base 5 1 (.slice a l.length cap) l.length (l.map u8v)) (hbase : base ≤ w.heap.size)
    (hn : n < 18446744073709551616) (hk : k ≤ 8) (hfit : l.length + k ≤ 140737488355328) :
    Calls Try.prog 60 #[.slice a l.length cap, .int .u64 n, .int .i64 k] w (RPut w base a l (be k n)) := by
  obtain ⟨i0, hi, hz0, hz1, hz2⟩ := info_parts Try.info5
  have HI := Lib.hid hi; clear hi
  have HZ0 := Lib.hid hz0; clear hz0
  have HZ1 := Lib.hid hz1; clear hz1
  have HZ2 := Lib.hid hz2; clear hz2
  obtain ⟨ln, hln⟩ : ∃ ln, ln = l.length := ⟨_, rfl⟩
  rw [← hln] at hown hfit ⊢
  have HO := Lib.hid hown; clear hown
  have HL := Lib.hid hln; clear hln
  go_enter Try.func60, Try.ntmps60
  go_wp2
  go_loopw [0, 7, 8, 9] (fun b i _ _ wr => RpRel base k ln n a l w b i wr) (fun _ i _ _ _ => (intOf i + 1).toNat)
  case atStart => exact ⟨0, a, cap, Nat.zero_le _, by simp, by simp, by simpa using HO.out, Frm.refl _ _, fun g hg => .inl hg⟩
  case round =>
    obtain ⟨m, a', cap', hm, rfl, rfl, hown, hf, hg⟩ := hrel
    have HF := Lib.hid hf; clear hf
    have HG := Lib.hid hg; clear hg
    obtain ⟨xs, hxs⟩ : ∃ xs, xs = (l ++ (be k n).take m).map u8v := ⟨_, rfl⟩
    rw [← hxs] at hown
    have HXS := Lib.hid hxs; clear hxs
    have HO1 := Lib.hid hown; clear hown
    by_cases hlt : m < k
    · obtain ⟨t, ht⟩ : ∃ t : Nat, t = k - 1 - m := ⟨_, rfl⟩
      have et : (k : Int) - 1 - m = (t : Int) := by omega
      have hkb : (k : Int) ≤ 8 := by omega
      have hmt : Hid (m + t + 1 = k) := by show m + t + 1 = k; omega
      have HT := Lib.hid ht; clear ht
      rw [et]
      clear et
      have htk : t < 8 := by have := hmt.out; omega
      go_wp2
      go_loop [8, 9] (fun x j => ∃ q : Nat, q ≤ t ∧ j = .int .i64 q ∧ x = .int .u64 (n / 256 ^ q : Nat)) (fun _ j => t - (intOf j).toNat)
      case atStart => exact ⟨0, Nat.zero_le _, rfl, by simp⟩
      case round =>
        obtain ⟨q, hq, rfl, rfl⟩ := hrel
        have hx : n / 256 ^ q < 18446744073709551616 := Nat.lt_of_le_of_lt (Nat.div_le_self _ _) hn
        have hd : n / 256 ^ (q + 1) = n / 256 ^ q / 256 := by rw [Nat.pow_succ, Nat.div_div_eq_div_mul]
        obtain ⟨y, hy⟩ : ∃ y, y = n / 256 ^ q := ⟨_, rfl⟩
        rw [← hy] at hx hd ⊢
        have HY := Lib.hid hy; clear hy
        have HD := Lib.hid hd; clear hd
        by_cases hqt : q < t
        · go_wp2
          go_round
          case rel => exact ⟨q + 1, by omega, by go_num, same_int (by rw [HD.out]; omega)⟩
          case measure => simp [intOf]; omega
        · obtain rfl : q = t := by omega
          go_wp2_with (at_builtin; refine wpList_app rfl (.tmp 24) (.tmp 28) 22 rfl base 5 i0 Try.underlying22 HI.out HZ0.out HZ1.out HZ2.out (.slice a' (ln + m) cap') (ln + m) xs rfl ?own1 _ _ _ [y % 256] rfl ?b1 rfl (by simp) ?fit1 ?base1 ?_)
          case own1 => exact HO1.out.alloc _
          case b1 => exact one_byte wr y 5
          case fit1 => omega
          case base1 => have := HF.out.size; simp; omega
          intro a2 cap2 w2 happ
          have HAPP := Lib.hid happ; clear happ
          go_wp2
          go_roundw
          case rel =>
            have e : q = k - 1 - m := HT.out
            refine rp_step (c := y % 256) hlt (by rw [HY.out, e]) HF.out HG.out ((Frm.refl [] wr).alloc _) (by rw [← HXS.out]; exact HAPP.out) ?_ rfl
            have := hmt.out
            congr 1
            omega
          case measure => simp [intOf]
    · obtain rfl : m = k := by omega
      have e1 : (m : Int) - 1 - m = -1 := by omega
      rw [e1]
      clear e1
      go_wp2
      go_ret
      have e : (be m n).take m = be m n := List.take_of_length_le (by rw [be_length]; exact Nat.le_refl _)
      have e2 : (l ++ be m n).length = ln + m := by rw [List.length_append, be_length, HL.out]
      have h1 := HO1.out
      rw [HXS.out, e] at h1
      exact ⟨a', cap', by rw [e2]; rfl, by rw [e2]; exact h1, HF.out, HG.out⟩

theorem RPut.mk {w w1 w2 : World} {base : Nat} {a a1 a2 : Option Addr} {cap1 cap2 : Nat} {l b c : List Nat}
    (hf1 : Frm (ob a) w w1) (hg1 : ∀ g ∈ ob a1, g ∈ ob a ∨ w.heap.size ≤ g)
    (h : App w1 w2 base 5 (.slice a1 (l ++ b).length cap1) (l ++ b).length c.length ((l ++ b).map u8v) c a2 cap2) :
    RPut w base a l (b ++ c) (.returned (.slice a2 ((l ++ b).length + c.length) cap2)) w2 := by
  have e : (l ++ (b ++ c)).length = (l ++ b).length + c.length := by simp; omega
  refine ⟨a2, cap2, by rw [e], ?_, hf1.grown h.grown ?_, ?_⟩
  · have := h.own
    rw [← List.map_append] at this
    rw [e, ← List.append_assoc]; exact this
  · intro g hg; exact hg1 g (ob_some.1 hg)
  · intro g hgg
    rcases h.place with hp | hp
    · exact hg1 g (ob_some.1 (hp ▸ ob_some.2 hgg))
    · have := (ob_some (n := (l ++ b).length + c.length) (c := cap2)).2 hgg
      rw [hp] at this
      right
      have h1 := hf1.size
      simp at this
      omega

end Go.Proofs.Ytghadpihmhaepaa
/- Contract of Writer.put, whether or not something was put ahead. -/
namespace Go.Proofs.Ytghadpihmhaepaa
open Go.RowKit

set_option maxHeartbeats 1000000 in
/-- put where nothing was put. -/
theorem put_off (B p : Nat) (a : Option Addr) (n cap : Nat) (b : List Nat) (w : World)
    (hp : Whole w p 93 #[.pointer none, .int .i64 0]) (hBp : B ≤ p)
    (hb : Bytes w a b) (hap : b ≠ [] → ∀ x, a = some x → x.block ≠ p) (hn : n = b.length) (hnil : a = none → cap = 0) (hfit : n ≤ 140737488355328) :
    Calls Try.prog 110 #[.pointer (some ⟨p, 0, none⟩), .slice a n cap] w (PutEnd w B p [p] [] b) := by
  have hBw : B ≤ w.heap.size := Nat.le_of_lt (Nat.lt_of_le_of_lt hBp hp.lt)
  have hlt := hp.lt
  obtain ⟨i0, hi, hz0, hz1, hz2⟩ := info_parts Try.info5
  have c0 := hp.cell 0
  have f0 := hp.free 0
  simp at c0
  have HP := Lib.hid hp; clear hp
  have HB := Lib.hid hb; clear hb
  have HN := Lib.hid hn; clear hn
  have HA := Lib.hid hap; clear hap
  go_enter Try.func110, Try.ntmps110
  go_wp2
  go_quiet (fail)
  go_wp2_with fail
  refine (done_nil p _ (by exact HP.out)).mono ?_
  rintro e w' ⟨rfl, rfl⟩
  clear c0 f0
  have HP2 := ((show Whole (w.drewN nq) p _ _ from HP.out).alloc (.cells #[.slice none 0 0] 122))
  have HR2 := Whole.made (w.drewN nq) 122 #[.slice none 0 0]
  have HF2 : Frm [p] w ((w.drewN nq).alloc (.cells #[.slice none 0 0] 122)) := ((Frm.refl [p] w).drewN nq).alloc _
  have k0 := HP2.cell 0
  have k1 := HP2.free 0
  simp at k0
  have hpr : p ≠ w.heap.size := by omega
  have HP3 := Lib.hid (HP2.put 0 (.pointer (some ⟨w.heap.size, 0, none⟩))); clear HP2
  have HR3 := Lib.hid (HR2.other (p := ⟨p, 0, none⟩) (by exact Ne.symm hpr) (.pointer (some ⟨w.heap.size, 0, none⟩))); clear HR2
  have HF3 := Lib.hid (HF2.setCell (p := ⟨p, 0, none⟩) (.inl (by simp)) (.pointer (some ⟨w.heap.size, 0, none⟩))); clear HF2
  go_wp2
  clear k0 k1
  obtain ⟨r, hr⟩ : ∃ r, r = w.heap.size := ⟨_, rfl⟩
  rw [← hr] at HP3 HR3 HF3 hpr ⊢
  obtain ⟨w3, hw3⟩ : ∃ w3, w3 = ((w.drewN nq).alloc (Obj.cells #[Value.slice none 0 0] 122)).setCell ⟨p, 0, none⟩ (Value.pointer (some ⟨r, 0, none⟩)) := ⟨_, rfl⟩
  rw [← hw3] at HP3 HF3 ⊢
  replace HR3 : Hid (Whole w3 r 122 #[.slice none 0 0]) := by rw [hw3]; simpa [← hr] using HR3
  have hBw3 : B ≤ w3.heap.size := Nat.le_trans hBw HF3.out.size
  have hBr : B ≤ r := by omega
  have HB3 : Hid (Bytes w3 a b) := HF3.out.bytes' HB.out (fun hne x hx => by have := HA.out hne x hx; simpa using this)
  have h8b := HB.out.1
  have hp3 := HP3.out
  have hr3 := HR3.out
  simp at hp3
  have FIN := Lib.hid (fun (m : Nat) (w1 : World) (a' : Option Addr) (cap' : Nat) => put_end (B := B) (p := p) (r := r) (sa := none) (scap := 0) (k := 0) (n := n) (l := []) (b := b) (w := w3) (w1 := w1) (m := m) (a' := a') (cap' := cap') rfl HN.out (by simp) h8b hp3 hr3 (World.ownsRow_nil _ _ _ _) hBr hBp)
  have keep : ∀ (m : Nat) (w1 : World), (w3.drewN m).grownBy w1 none → Whole w1 p 93 #[.pointer (some ⟨r, 0, none⟩), .int .i64 0] ∧ Whole w1 r 122 #[.slice none 0 0] := fun m w1 hg =>
    ⟨(hg.block p hp3.lt (by simp)).trans hp3, (hg.block r hr3.lt (by simp)).trans hr3⟩
  have KEEP := Lib.hid keep; clear keep
  have END : Hid (∀ w', Put w3 w' B p (p :: r :: (Value.slice none 0 0).ownBlock.toList) [] b → Put w w' B p [p] [] b) := by
    rintro w' ⟨F', hw, hf, hF⟩
    refine ⟨F', hw, HF3.out.trans hf (by simp) ?_, fun x hx => ?_⟩
    · intro x hx
      simp [Value.ownBlock] at hx
      rcases hx with rfl | rfl
      · left; simp
      · right; omega
    · rcases hF x hx with h | h
      · simp [Value.ownBlock] at h
        rcases h with rfl | rfl
        · left; simp
        · right; omega
      · right; have := HF3.out.size; omega
  have c0 := hp3.cell 0
  have c1 := hp3.cell 1
  have cr := hr3.cell 0
  have fp0 := hp3.free 0
  have fp1 := hp3.free 1
  have fr := hr3.free 0
  simp at c0 c1 cr
  clear hp3 hr3 HP3 HR3 HF3 h8b HB HA
  have HR := Lib.hid hr; clear hr
  have HW := Lib.hid hw3; clear hw3
  go_region_law ((refine step_app rfl (.tmp 43) (.tmp 44) 22 rfl B 5 i0 Try.underlying22 hi hz0 hz1 hz2 (.slice none 0 0) 0 [] rfl (World.ownsRow_nil _ _ _ _) _ _ _ b rfl ?_ HN.out hnil ?_ ?_ ?_; (exact HB3.out); (omega); (exact hBw3); intro a' cap' w1 happ; have HA := Lib.hid happ; obtain ⟨hp1, hr1⟩ := KEEP.out _ _ happ.grown; have q0 := hp1.cell 0; have q1 := hr1.cell 0; have q2 := hr1.free 0; simp at q0 q1; clear happ hp1 hr1))
  all_goals
    obtain ⟨hp1, hr1⟩ := KEEP.out _ _ HA.out.grown
    have hp2 := (hp1.other (p := ⟨r, 0, none⟩) hpr (.slice a' (0 + n) cap'))
    have hr2 := (hr1.put 0 (.slice a' (0 + n) cap'))
    have s0 := hp2.cell 0
    have s1 := hr2.cell 0
    have s2 := hp2.cell 1
    have s3 := hp2.free 1
    simp at s0 s1 s2 s3
    clear hp1 hr1 hp2 hr2
    go_wp2
    go_end0
    have := END.out _ (FIN.out _ _ _ _ HA.out)
    simp at this
    exact ⟨rfl, this⟩

theorem put_any {w : World} {B p : Nat} {F : List Nat} {l : List Nat} {a : Option Addr} {n cap : Nat} {b : List Nat} (h : Wr w B p F l)
    (hb : Bytes w a b) (hap : b ≠ [] → ∀ x, a = some x → x.block ≠ p) (hn : n = b.length) (hnil : a = none → cap = 0) (hfit : l.length + n ≤ 140737488355328) :
    Calls Try.prog 110 #[.pointer (some ⟨p, 0, none⟩), .slice a n cap] w (PutEnd w B p F l b) := by
  obtain ⟨h8, hBp, ⟨rfl, rfl, hp⟩ | ⟨r, sa, scap, hp, hr, hown, hBr, rfl⟩⟩ := h
  · exact put_off B p a n cap b w hp hBp hb hap hn hnil (by simp at hfit; exact hfit)
  · exact put_on B p r sa scap l a n cap b w h8 hp hr hown hBr hBp hb hn hnil hfit
end Go.Proofs.Ytghadpihmhaepaa
/- Contracts of Writer.number, U8, U16, U32, U64, Bytes, Text. -/
namespace Go.Proofs.Ytghadpihmhaepaa
open Go.RowKit

theorem own_block_lt {w : World} {base : Nat} {e : TypeId} {size n : Nat} {v : Value} {xs : List Value} (h : w.ownsRow base e size v n xs) {g : Nat} (hg : v.ownBlock = some g) : base ≤ g ∧ g < w.heap.size := h.lt g hg

theorem Wr.keep {w w' : World} {B p : Nat} {F S : List Nat} {l : List Nat} (h : Wr w B p F l) (hf : Frm S w w') (hS : ∀ x ∈ F, x ∉ S) : Wr w' B p F l := by
  obtain ⟨h8, hBp, h⟩ := h
  refine ⟨h8, hBp, ?_⟩
  rcases h with ⟨rfl, rfl, hp⟩ | ⟨r, a, cap, hp, hr, hown, hBr, rfl⟩
  · exact .inl ⟨rfl, rfl, hf.whole hp (hS p (by simp))⟩
  · exact .inr ⟨r, a, cap, hf.whole hp (hS p (by simp)), hf.whole hr (hS r (by simp)), hf.own hown (fun g hg => hS g (by rw [hg]; simp)), hBr, rfl⟩
theorem Wr.lt {w : World} {B p : Nat} {F : List Nat} {l : List Nat} (h : Wr w B p F l) : ∀ x ∈ F, B ≤ x ∧ x < w.heap.size := by
  obtain ⟨h8, hBp, h⟩ := h
  rcases h with ⟨rfl, rfl, hp⟩ | ⟨r, a, cap, hp, hr, hown, hBr, rfl⟩
  · intro x hx; simp at hx; subst hx; exact ⟨hBp, hp.lt⟩
  · intro x hx
    simp only [List.mem_cons] at hx
    rcases hx with rfl | rfl | hx
    · exact ⟨hBp, hp.lt⟩
    · exact ⟨hBr, hr.lt⟩
    · cases hg : (Value.slice a l.length cap).ownBlock with
      | none => rw [hg] at hx; simp at hx
      | some g => rw [hg] at hx; simp at hx; subst hx; exact own_block_lt hown hg
theorem Wr.mem {w : World} {B p : Nat} {F : List Nat} {l : List Nat} (h : Wr w B p F l) : p ∈ F := by
  obtain ⟨h8, hBp, h⟩ := h
  rcases h with ⟨rfl, rfl, hp⟩ | ⟨r, a, cap, hp, hr, hown, hBr, rfl⟩ <;> simp
/-- What was put from a later world on. -/
theorem Put.early {w0 w w' : World} {B p : Nat} {F l b : List Nat} (h : Put w w' B p F l b) (hf : Frm [] w0 w) : Put w0 w' B p F l b := by
  obtain ⟨F', hw, hF, hx⟩ := h
  refine ⟨F', hw, hf.trans hF (by simp) (fun x hx => .inl hx), fun x h => ?_⟩
  rcases hx x h with h1 | h1
  · exact .inl h1
  · right; have := hf.size; omega
/-- Two puts, one behind the other. -/
theorem Put.more {w w1 w2 : World} {B p : Nat} {F l b c : List Nat} (h : Put w w1 B p F l b) (h2 : ∀ F', Wr w1 B p F' (l ++ b) → Put w1 w2 B p F' (l ++ b) c) : Put w w2 B p F l (b ++ c) := by
  obtain ⟨F1, hw1, hf1, hx1⟩ := h
  obtain ⟨F2, hw2, hf2, hx2⟩ := h2 F1 hw1
  refine ⟨F2, by rw [← List.append_assoc]; exact hw2, hf1.trans hf2 (fun x h => h) hx1, fun x h => ?_⟩
  rcases hx2 x h with h1 | h1
  · exact hx1 x h1
  · right; have := hf1.size; omega

/-- The last k of eight bytes, as they lie in a block of their own. -/
theorem eight_bytes {w : World} {g k n d0 d1 d2 d3 d4 d5 d6 d7 : Nat} (off : Nat) (t : TypeId) (hd : be 8 n = [d0, d1, d2, d3, d4, d5, d6, d7]) (hb : (be 8 n).drop off = be k n) (h8 : ∀ c ∈ be k n, c < 256) (hl : (be k n).length = k) (hk : k + off = 8)
    (h : Whole w g t #[.int .u8 d0, .int .u8 d1, .int .u8 d2, .int .u8 d3, .int .u8 d4, .int .u8 d5, .int .u8 d6, .int .u8 d7]) : Bytes w (some ⟨g, off, none⟩) (be k n) := by
  refine ⟨h8, by omega, .inr ⟨g, off, rfl, fun i hi => ?_⟩⟩
  rw [h.cell, ← hb, hd]
  have hj : off + i < 8 := by omega
  have e : (List.drop off [d0, d1, d2, d3, d4, d5, d6, d7]).getD i 0 = [d0, d1, d2, d3, d4, d5, d6, d7].getD (off + i) 0 := by
    simp [List.getD, List.getElem?_drop]
  rw [e]
  generalize off + i = j at *
  match j, hj with
  | 0, _ | 1, _ | 2, _ | 3, _ | 4, _ | 5, _ | 6, _ | 7, _ => rfl

set_option maxHeartbeats 1000000 in
theorem number_any {w : World} {B p : Nat} {F : List Nat} {l : List Nat} (n k : Nat) (h : Wr w B p F l) (hk : k = 1 ∨ k = 2 ∨ k = 4 ∨ k = 8) (hn : n < 18446744073709551616) (hfit : l.length + k ≤ 140737488355328) :
    Calls Try.prog 103 #[.pointer (some ⟨p, 0, none⟩), .int .u64 n, .int .i64 k] w (PutEnd w B p F l (be k n)) := by
  have hplt := (h.lt p h.mem).2
  have H := Lib.hid h; clear h
  have hbd := be_drop k n (by omega)
  have hbl := be_length k n
  have hbL := be_lt k n
  have HD := Lib.hid hbd; clear hbd
  have HL := Lib.hid hbl; clear hbl
  have H8 := Lib.hid hbL; clear hbL
  have HFIT := Lib.hid hfit; clear hfit
  rcases hk with rfl | rfl | rfl | rfl
  all_goals
    go_enter Try.func103, Try.ntmps103
    go_wp2_with fail
    refine (digits_any n _ hn).mono ?_
    rintro e w1 ⟨d0, d1, d2, d3, d4, d5, d6, d7, hd, rfl, hb⟩
    have HDD := Lib.hid hd; clear hd
    have HB := Lib.hid hb; clear hb
    go_wp2_with fail
    have hB := HB.out
    have hf := (Frm.ofBelow hB).alloc (.cells #[.int .u8 d0, .int .u8 d1, .int .u8 d2, .int .u8 d3, .int .u8 d4, .int .u8 d5, .int .u8 d6, .int .u8 d7] 147)
    have hx : ∀ (o : Nat) (x : Addr), (some ⟨w1.heap.size, o, none⟩ : Option Addr) = some x → x.block ≠ p := by
      have := hB.size
      intro o x hx
      cases hx
      simp; omega
    refine (put_any (F := F) (l := l) (H.out.keep hf (by simp)) (eight_bytes _ _ HDD.out HD.out H8.out HL.out (by omega) (Whole.made _ _ _)) (fun _ => hx _) HL.out.symm (by simp) HFIT.out).mono ?_
    rintro e w' ⟨rfl, hput⟩
    have HP := Lib.hid (hput.early hf); clear hput hf
    go_wp2
    go_end0
    exact ⟨rfl, HP.out⟩
end Go.Proofs.Ytghadpihmhaepaa
/- Contracts of Writer.U8, U16, U32, U64, Bytes, Text. -/
namespace Go.Proofs.Ytghadpihmhaepaa
open Go.RowKit

theorem u16_any {w : World} {B p : Nat} {F : List Nat} {l : List Nat} (n : Nat) (h : Wr w B p F l) (hn : n < 65536) (hfit : l.length + 2 ≤ 140737488355328) :
    Calls Try.prog 83 #[.pointer (some ⟨p, 0, none⟩), .int .u16 n] w (PutEnd w B p F l (be 2 n)) := by
  have H := Lib.hid h; clear h
  have HFIT := Lib.hid hfit; clear hfit
  go_enter Try.func83, Try.ntmps83
  go_wp2_with fail
  refine (number_any n 2 H.out (by omega) (by omega) HFIT.out).mono ?_
  rintro e w' ⟨rfl, hput⟩
  have HP := Lib.hid hput; clear hput
  go_wp2
  go_end0
  exact ⟨rfl, HP.out⟩

theorem u64_any {w : World} {B p : Nat} {F : List Nat} {l : List Nat} (n : Nat) (h : Wr w B p F l) (hn : n < 18446744073709551616) (hfit : l.length + 8 ≤ 140737488355328) :
    Calls Try.prog 82 #[.pointer (some ⟨p, 0, none⟩), .int .u64 n] w (PutEnd w B p F l (be 8 n)) := by
  have H := Lib.hid h; clear h
  have HFIT := Lib.hid hfit; clear hfit
  go_enter Try.func82, Try.ntmps82
  go_wp2_with fail
  refine (number_any n 8 H.out (by omega) (by omega) HFIT.out).mono ?_
  rintro e w' ⟨rfl, hput⟩
  have HP := Lib.hid hput; clear hput
  go_wp2
  go_end0
  exact ⟨rfl, HP.out⟩

theorem Put.then {w w1 w2 : World} {B p : Nat} {F F1 l b c : List Nat} (hf1 : Frm F w w1) (hx1 : ∀ x ∈ F1, x ∈ F ∨ w.heap.size ≤ x) (h2 : Put w1 w2 B p F1 (l ++ b) c) : Put w w2 B p F l (b ++ c) := by
  obtain ⟨F2, hw2, hf2, hx2⟩ := h2
  refine ⟨F2, by rw [← List.append_assoc]; exact hw2, hf1.trans hf2 (fun x h => h) hx1, fun x h => ?_⟩
  rcases hx2 x h with h1 | h1
  · exact hx1 x h1
  · right; have := hf1.size; omega

end Go.Proofs.Ytghadpihmhaepaa
/- Contract of Awake (the fixed facts of layer 2): it answers true and writes nothing that was there. -/
namespace Go.Proofs.Ytghadpihmhaepaa
open Go.RowKit

/-- A Writer that was just made. -/
theorem Wr.zero (w : World) : Wr (w.alloc (.cells #[.pointer none, .int .i64 0] 93)) w.heap.size w.heap.size [w.heap.size] [] :=
  ⟨by simp, Nat.le_refl _, .inl ⟨rfl, rfl, Whole.made _ _ _⟩⟩
end Go.Proofs.Ytghadpihmhaepaa
/- Plain arithmetic of the CRC-32C register over natural numbers: the step, bytes, lists of bytes, and that it is linear over exclusive-or. No condition. -/
namespace Go.Proofs.Ytghadpihmhaepaa

/-- One step of the register. -/
def stp (x : Nat) : Nat := if x % 2 = 1 then x / 2 ^^^ 2197175160 else x / 2
/-- So many steps. -/
def stps : Nat → Nat → Nat
  | 0, x => x
  | n + 1, x => stps n (stp x)
/-- A byte more. -/
def fed (x c : Nat) : Nat := stps 8 (x ^^^ c)
/-- A list of bytes more. -/
def fedAll (x : Nat) : List Nat → Nat
  | [] => x
  | c :: r => fedAll (fed x c) r
def inv32 (x : Nat) : Nat := x ^^^ 4294967295
def moreN (s : Nat) (l : List Nat) : Nat := inv32 (fedAll (inv32 s) l)
def sumN (l : List Nat) : Nat := moreN 0 l

/-! ### Linear over exclusive-or -/
/-- Two lists of one length, place by place. -/
def xorL : List Nat → List Nat → List Nat
  | a :: r, b :: s => (a ^^^ b) :: xorL r s
  | _, _ => []
end Go.Proofs.Ytghadpihmhaepaa
/- Contract of crc.feed: for every register and byte it answers the register behind one byte more, and writes nothing. No condition but that the two are numbers of their kinds. -/
namespace Go.Proofs.Ytghadpihmhaepaa
open Go.RowKit

end Go.Proofs.Ytghadpihmhaepaa
/- Contracts of crc.More and crc.Sum: for every slice of bytes, nil or not, they answer the register's sum by its definition, and write nothing. Conditions: what the slice reads as. -/
namespace Go.Proofs.Ytghadpihmhaepaa
open Go.RowKit

end Go.Proofs.Ytghadpihmhaepaa
/- Contract of the reference's Sum (package mailcoachref01): for every slice of bytes, nil or not, it answers the register's sum by its definition, and writes nothing. Conditions: what the slice reads as. -/
namespace Go.Proofs.Ytghadpihmhaepaa
open Go.RowKit

end Go.Proofs.Ytghadpihmhaepaa
/- Contract of Frame: bytes with how many they are, and their sum, ahead. -/
namespace Go.Proofs.Ytghadpihmhaepaa
open Go.RowKit

/-- A frame's bytes. -/
def fr (l : List Nat) : List Nat := be 4 l.length ++ be 4 (sumN l) ++ l
/-- What Frame hands back. -/
def Framed (w : World) (l : List Nat) (e : Ending) (w' : World) : Prop :=
  ∃ a' cap', e = .returned (.tuple #[.slice a' (fr l).length cap', .int .i64 0]) ∧ w'.ownsRow w.heap.size 5 1 (.slice a' (fr l).length cap') (fr l).length ((fr l).map u8v) ∧ Frm [] w w'

end Go.Proofs.Ytghadpihmhaepaa
/- Slices cut out of a slice of bytes: the values written out, and what they read as. They speak of no program. -/
namespace Go.Proofs.Ytghadpihmhaepaa
open Go.RowKit

/-- The address of a piece from place lo on. -/
def cutAt (a : Option Addr) (cap lo : Nat) : Option Addr := if cap = lo then a else a.map (·.add lo)

section
variable {P : Program} {t e : TypeId}
theorem run_cut_l (ht : P.underlying t = some (.slice e)) (hz : ∀ w, (Go.sizeOf e).run P w = .ok 1 w) (w : World) (a : Option Addr) (n cap lo : Nat) (l : Int) (hl : l = (lo : Nat)) (h1 : lo ≤ n) (kl : IntKind := .i64) :
    (Instr.slice t (.slice a n cap) (some (.int kl l)) none none).run P w = .ok (.slice (cutAt a cap lo) (n - lo) (cap - lo)) w := by
  subst hl
  have ht' : P.underlying t = some (.slice (P.elem t)) := by simp [Program.elem, ht]
  have he : P.elem t = e := by simp [Program.elem, ht]
  rw [run_slice_l w t _ _ _ ht' kl _ (by omega) (by omega), he, hz]
  simp [Result.andThen, sliced, cutAt]
end
theorem cut_bytes {w : World} {a : Option Addr} {cap : Nat} {l : List Nat} (h : Bytes w a l) (hc : l.length ≤ cap) (lo : Nat) : Bytes w (cutAt a cap lo) (l.drop lo) := by
  unfold cutAt
  by_cases hlo : cap = lo
  · rw [if_pos hlo, List.drop_eq_nil_of_le (by omega)]; exact Bytes.nil _
  · rw [if_neg hlo]; exact h.drop lo
theorem cut_none {a : Option Addr} {cap lo : Nat} (h : a = none → cap = 0) (hc : cutAt a cap lo = none) : cap - lo = 0 := by
  unfold cutAt at hc
  by_cases hlo : cap = lo
  · omega
  · rw [if_neg hlo] at hc
    have := h (by simpa using hc)
    omega
theorem cut_block {a : Option Addr} {cap lo : Nat} {x : Addr} (hc : cutAt a cap lo = some x) : ∃ y, a = some y ∧ x.block = y.block := by
  unfold cutAt at hc
  by_cases hlo : cap = lo
  · rw [if_pos hlo] at hc; exact ⟨x, hc, rfl⟩
  · rw [if_neg hlo] at hc
    cases a with
    | none => cases hc
    | some y =>
      simp at hc
      subst hc
      exact ⟨y, rfl, by unfold Addr.add; split <;> rfl⟩
end Go.Proofs.Ytghadpihmhaepaa
/- Contract of Unframe: the frame with which bytes begin, and what is left; or which error. -/
namespace Go.Proofs.Ytghadpihmhaepaa
open Go.RowKit

/-- What the reader of a frame's head leaves: the two numbers, in their variables. -/
def Head (w0 : World) (zb sb : Nat) (l : List Nat) (w2 : World) (rest : List Nat) : Prop :=
  rest = l.drop 8 ∧ Frm [zb, sb] w0 w2 ∧ Whole w2 zb 158 #[.int .u32 (val (l.take 4) : Nat)] ∧ Whole w2 sb 158 #[.int .u32 (val ((l.drop 4).take 4) : Nat)]

theorem size_byte (w : World) : (Go.sizeOf 5).run Try.prog w = .ok 1 w := by kernel_rfl
/-- Unframe answers an error. -/
def UnfErr (w : World) (c : Int) (e : Ending) (w' : World) : Prop := e = .returned (.tuple #[.slice none 0 0, .slice none 0 0, .int .i64 c]) ∧ Frm [] w w'
/-- A slice that was cloned. -/
structure PkCl (w : World) (l : List Nat) (a : Option Addr) (cap : Nat) : Prop where
  bytes : Bytes w a l
  nil : a = none → cap = 0
  le : l.length ≤ cap
  fits : cap ≤ 9223372036854775807
  lt : ∀ x, a = some x → x.block < w.heap.size
theorem PkCl.keep {w w' : World} {l : List Nat} {a : Option Addr} {cap : Nat} (h : PkCl w l a cap) (hf : Frm [] w w') : PkCl w' l a cap :=
  ⟨hf.bytes h.bytes (by simp), h.nil, h.le, h.fits, fun x hx => Nat.lt_of_lt_of_le (h.lt x hx) hf.size⟩
/-- Unframe answers a body of so many bytes, and the rest. -/
def UnfOk (w : World) (l : List Nat) (z : Nat) (e : Ending) (w' : World) : Prop :=
  ∃ a1 cap1 a2 cap2, e = .returned (.tuple #[.slice a1 z cap1, .slice a2 (l.length - (8 + z)) cap2, .int .i64 0]) ∧ PkCl w' ((l.drop 8).take z) a1 cap1 ∧ PkCl w' (l.drop (8 + z)) a2 cap2 ∧ Frm [] w w'
/-- The same; the body lies in a new block. -/
def UnfOkF (w : World) (l : List Nat) (z : Nat) (e : Ending) (w' : World) : Prop :=
  ∃ a1 cap1 a2 cap2, e = .returned (.tuple #[.slice a1 z cap1, .slice a2 (l.length - (8 + z)) cap2, .int .i64 0]) ∧ PkCl w' ((l.drop 8).take z) a1 cap1 ∧ PkCl w' (l.drop (8 + z)) a2 cap2 ∧ Frm [] w w' ∧ ∀ q, a1 = some q → w.heap.size ≤ q.block

end Go.Proofs.Ytghadpihmhaepaa
/- Contracts of the reference's Reader: Number; and of its Unframe. -/
namespace Go.Proofs.Ytghadpihmhaepaa
open Go.RowKit

/-- The reference's reader at block rb has the bytes l left, and no fault. -/
structure RR (w : World) (rb : Nat) (l : List Nat) (a : Option Addr) (cap : Nat) : Prop where
  whole : Whole w rb 63 #[.slice a l.length cap, .int .i64 0]
  bytes : Bytes w a l
  le : l.length ≤ cap
  nil : a = none → cap = 0
  apart : l ≠ [] → ∀ x, a = some x → x.block ≠ rb

theorem val_take_succ (l : List Nat) (i : Nat) (h : i < l.length) : val (l.take (i + 1)) = val (l.take i) * 256 + l.getD i 0 := by
  rw [take_snoc_getD h, val_snoc]
theorem val_take_lt8 {l : List Nat} (h8 : ∀ c ∈ l, c < 256) (i : Nat) (h : i < 8) : val (l.take i) < 72057594037927936 := by
  have h1 := val_lt (l.take i) (fun c hc => h8 c (List.mem_of_mem_take hc))
  have h2 : (l.take i).length ≤ 7 := by rw [List.length_take]; omega
  exact Nat.lt_of_lt_of_le h1 (Nat.le_trans (Nat.pow_le_pow_right (by omega) h2) (by decide))

/-- Behind Number: the reader is further on. -/
theorem RR.next {w : World} {rb : Nat} {l : List Nat} {a : Option Addr} {cap : Nat} (h : RR w rb l a cap) (k : Nat) :
    RR (w.setCell ⟨rb, 0, none⟩ (.slice (cutAt a cap k) (l.length - k) (cap - k))) rb (l.drop k) (cutAt a cap k) (cap - k) := by
  have hf : Frm [rb] w (w.setCell ⟨rb, 0, none⟩ (.slice (cutAt a cap k) (l.length - k) (cap - k))) := (Frm.refl _ _).setCell (.inl (by simp)) _
  have hap : l.drop k ≠ [] → ∀ x, cutAt a cap k = some x → x.block ≠ rb := fun hne x hx => by
    obtain ⟨y, hy, hb⟩ := cut_block hx
    rw [hb]; exact h.apart (fun h0 => hne (by rw [h0]; simp)) y hy
  refine ⟨?_, hf.bytes' (cut_bytes h.bytes h.le k) (fun hne x hx => by simpa using hap hne x hx), by simp; have := h.le; omega, fun hn => cut_none h.nil hn, hap⟩
  simpa using h.whole.put 0 (.slice (cutAt a cap k) (l.length - k) (cap - k))

/-- What Number hands back. -/
def Numbered (w : World) (rb : Nat) (l : List Nat) (a : Option Addr) (cap k : Nat) (e : Ending) (w' : World) : Prop :=
  e = .returned (.int .u64 (val (l.take k) : Nat)) ∧ w' = w.setCell ⟨rb, 0, none⟩ (.slice (cutAt a cap k) (l.length - k) (cap - k))

set_option maxHeartbeats 1000000 in
theorem ref_number_ok {w : World} {rb : Nat} {l : List Nat} {a : Option Addr} {cap : Nat} (k : Nat) (h : RR w rb l a cap) (hk : k ≤ l.length) (hk8 : k ≤ 8) :
    Calls Try.prog 64 #[.pointer (some ⟨rb, 0, none⟩), .int .i64 k] w (Numbered w rb l a cap k) := by
  have c0 := h.whole.cell 0
  have c1 := h.whole.cell 1
  have f0 := h.whole.free 0
  simp at c0 c1
  have hll := h.bytes.2.1
  have hcut := fun (w : World) => run_cut_l (P := Try.prog) Try.underlying22 size_byte w a l.length cap k (k : Int) rfl hk
  obtain ⟨a2, ha2⟩ : ∃ a2, a2 = cutAt a cap k := ⟨_, rfl⟩
  obtain ⟨n2, hn2⟩ : ∃ n2, n2 = l.length - k := ⟨_, rfl⟩
  obtain ⟨c2, hc2⟩ : ∃ c2, c2 = cap - k := ⟨_, rfl⟩
  rw [← ha2, ← hn2, ← hc2] at hcut
  have E1 := Lib.hid ha2; clear ha2
  have E2 := Lib.hid hn2; clear hn2
  have E3 := Lib.hid hc2; clear hc2
  have HB := Lib.hid h.bytes
  have HLE := h.le
  clear h
  go_enter Try.func64, Try.ntmps64
  go_wp2
  go_loop [5, 6] (fun n i => ∃ j : Nat, j ≤ k ∧ i = .int .i64 j ∧ n = .int .u64 (val (l.take j) : Nat)) (fun _ i => k - (intOf i).toNat)
  case atStart => exact ⟨0, Nat.zero_le _, rfl, rfl⟩
  case round =>
    obtain ⟨j, hj, rfl, rfl⟩ := hrel
    by_cases hlt : j < k
    · have hx := val_take_lt8 HB.out.1 j (by omega)
      have hs := val_take_succ l j (by omega)
      have hc8 := getD_lt HB.out.1 j
      obtain ⟨b, off, rfl, hcl⟩ : ∃ b off, a = some ⟨b, off, none⟩ ∧ w.cell? ⟨b, off + j, none⟩ = some (.int .u8 (l.getD j 0 : Nat)) := by
        rcases HB.out.2.2 with h | ⟨b, off, h, hh⟩
        · rw [h] at hk; simp at hk; omega
        · exact ⟨b, off, h, hh j (by omega)⟩
      obtain ⟨x, hx'⟩ : ∃ x, x = val (l.take j) := ⟨_, rfl⟩
      obtain ⟨c, hc'⟩ : ∃ c, c = l.getD j 0 := ⟨_, rfl⟩
      rw [← hx', ← hc'] at hs
      rw [← hx'] at hx ⊢
      rw [← hc'] at hc8 hcl
      have HX := Lib.hid hx'; clear hx'
      have HC := Lib.hid hc'; clear hc'
      have HS := Lib.hid hs; clear hs
      have hlj : (j : Int) < (l.length : Int) := by omega
      go_wp2
      go_round
      case rel => exact ⟨j + 1, by omega, by go_num, same_int (by rw [HS.out]; omega)⟩
      case measure => simp [intOf]; omega
    · obtain rfl : j = k := by omega
      go_wp2
      go_ret
      exact ⟨rfl, by rw [E1.out, E2.out, E3.out]⟩
/- == ref unframe -/
/-- The reference's Unframe answers a body and the rest. -/
def RUOk (w : World) (l : List Nat) (z : Nat) (e : Ending) (w' : World) : Prop :=
  ∃ a1 cap1 a2 cap2, e = .returned (.tuple #[.slice a1 z cap1, .slice a2 (l.length - (8 + z)) cap2, .int .i64 0]) ∧ Bytes w' a1 ((l.drop 8).take z) ∧ Bytes w' a2 (l.drop (8 + z)) ∧ Frm [] w w'
/-- The same, and where the body lies. -/
def RUOkA (w : World) (a : Option Addr) (l : List Nat) (z : Nat) (e : Ending) (w' : World) : Prop :=
  ∃ a1 cap1 a2 cap2, e = .returned (.tuple #[.slice a1 z cap1, .slice a2 (l.length - (8 + z)) cap2, .int .i64 0]) ∧ Bytes w' a1 ((l.drop 8).take z) ∧ Bytes w' a2 (l.drop (8 + z)) ∧ Frm [] w w' ∧ (∀ y, a1 = some y → ∃ q, a = some q ∧ y.block = q.block) ∧ (a1 = none → cap1 = 0)

end Go.Proofs.Ytghadpihmhaepaa
