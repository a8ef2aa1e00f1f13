/- Contracts and mathematics that the proofs of this seat stand on: RowDef, RowIn, Bytes, Frm, StrL, Str, App, PkMath, PkClone, PkRefPut, PkDigits, PkPut, PkDone, BytesCut, PkTake, PkValue, PkRNum, PkRWords, PkReadD, PkRead, PkPutAny, PkNumber, Conv, PkWords, PkAwake, CrcMath, CrcFeed, CrcMore, CrcRef, PkFrame, Cut, PkUnframe, PkRefRead, PkUnfAll, CrcBits, PkTurnMath. -/
import Derived.Test.YtcbpppdmkhpkkaaGreatProg
import Derived.WalkKit
import Derived.Lib.Hide
import Derived.OwnWalk
import Derived.Laws.AppendOwn
import Derived.Laws.OwnMore
import Derived.OneCell
import Derived.Deep.Draws
import Derived.Laws.BytesArg
import Derived.Maps.AppendAt
import Derived.Deep.RegionLaw
import Derived.Test.YtcbpppdmkhpkkaaGreatRows
import Derived.WalkSpells
import Derived.Outline
import Derived.Handy
import Derived.Deep.RegionHeld3
import Derived.Deep.QuietTactic
import Derived.BigQuiet
import Derived.BigRegion
import Derived.StillTailTactics
import Derived.WalkLawsBesides
import Derived.Laws.CopyOwn
import Derived.Recover
import Derived.LaidEqlPtr
import Derived.Laws.EntriesVeiled
import Derived.Lib.ConvBytes
import Derived.Laws.BitsAllLaws
import Derived.Laws.Slices
/- A slice of bytes that reads as a list, and small words: plain, of this seat's program alone by its import. -/
namespace Go.Proofs.YtcbpppdmkhpkkaaGreat
open Go.RowKit

theorem same_int {k : IntKind} {a b : Int} (h : a = b) : Value.int k a = Value.int k b := by rw [h]
theorem ret_same {k : IntKind} {a b : Int} (h : a = b) : Ending.returned (.int k a) = .returned (.int k b) := by rw [h]
/-- A slice value at address 'a' reads as the bytes 'l'. -/
def Bytes (w : World) (a : Option Addr) (l : List Nat) : Prop :=
  (∀ c ∈ l, c < 256) ∧ l.length ≤ 9223372036854775807 ∧
  (l = [] ∨ ∃ b off, a = some ⟨b, off, none⟩ ∧ ∀ i, i < l.length → w.cell? ⟨b, off + i, none⟩ = some (.int .u8 (l.getD i 0 : Nat)))

theorem getD_lt {l : List Nat} (h : ∀ c ∈ l, c < 256) (i : Nat) : l.getD i 0 < 256 := by
  by_cases hi : i < l.length
  · have e : l.getD i 0 = l[i] := by simp [hi]
    rw [e]; exact h _ (List.getElem_mem hi)
  · have e : l.getD i 0 = 0 := by simp [Nat.le_of_not_lt hi]
    omega
theorem take_snoc_getD {l : List Nat} {i : Nat} (h : i < l.length) : l.take (i + 1) = l.take i ++ [l.getD i 0] := by
  rw [List.take_succ_eq_append_getElem h]; simp [h]
theorem take_lt {l : List Nat} (h : ∀ c ∈ l, c < 256) (i : Nat) : ∀ c ∈ l.take i, c < 256 := fun c hc => h c (List.mem_of_mem_take hc)
end Go.Proofs.YtcbpppdmkhpkkaaGreat
/- What a slice of bytes that came in reads as, in plain words of this seat: a list of natural numbers below 256. Plain lemmas, no condition. -/
namespace Go.Proofs.YtcbpppdmkhpkkaaGreat
open Go.RowKit

/-- A slice of integers that came in: nil, or a row of cells. -/
def RowIn (k : IntKind) (w : World) (a : Option Addr) (len cap : Nat) (zs : List Int) : Prop :=
  (a = none ∧ len = 0 ∧ cap = 0 ∧ zs = []) ∨
  ∃ x, a = some x ∧ len ≤ cap ∧ cap ≤ maxLen ∧ zs.length = cap ∧ (∀ i, i < zs.length → w.cell? (x.add i) = some (.int k (zs.getD i 0))) ∧ ∀ n ∈ zs, (Lit.int k n).wf = true

theorem wf_bounds_u8 {n : Int} (h : (Lit.int .u8 n).wf = true) : 0 ≤ n ∧ n ≤ 255 := by
  simp [Lit.wf, IntKind.min, IntKind.max, IntKind.signed, IntKind.bits] at h
  omega
theorem bytes_of_row {w : World} {a : Option Addr} {len cap : Nat} {zs : List Int} (h : RowIn .u8 w a len cap zs) :
    ∃ l : List Nat, len = l.length ∧ Bytes w a l := by
  rcases h with ⟨rfl, rfl, rfl, rfl⟩ | ⟨x, rfl, hl, hm, hz, hcell, hwz⟩
  · exact ⟨[], rfl, by simp, by simp, .inl rfl⟩
  · unfold maxLen at hm
    have hlen : ((zs.take len).map Int.toNat).length = len := by simp; omega
    refine ⟨(zs.take len).map Int.toNat, hlen.symm, ?_, by omega, ?_⟩
    · intro c hc
      simp only [List.mem_map] at hc
      obtain ⟨n, hn, rfl⟩ := hc
      have := wf_bounds_u8 (hwz n (List.mem_of_mem_take hn))
      omega
    · by_cases h0 : len = 0
      · left; subst h0; simp
      · right
        obtain ⟨b, off, spot⟩ := x
        have hc := hcell 0 (by omega)
        have hspot : spot = none := by simpa [Addr.add] using World.cell?_spot hc
        subst hspot
        refine ⟨b, off, rfl, ?_⟩
        intro i hi
        have hi' : i < len := by omega
        have e := hcell i (by omega)
        have hw := wf_bounds_u8 (hwz (zs.getD i 0) (by have : i < zs.length := by omega
                                                       simp [this]))
        have : (((zs.take len).map Int.toNat).getD i 0 : Int) = zs.getD i 0 := by
          have h1 : i < zs.length := by omega
          simp [h1, hi'] at hw ⊢
          omega
        rw [this]
        have ha : (⟨b, off, none⟩ : Addr).add i = ⟨b, off + i, none⟩ := by
          unfold Addr.add
          by_cases hi0 : i = 0
          · subst hi0; simp
          · simp [hi0]
        rw [ha] at e; exact e
theorem row_nil {k : IntKind} {w : World} {a : Option Addr} {len cap : Nat} {zs : List Int} (h : RowIn k w a len cap zs) : a = none → cap = 0 := by
  intro ha
  rcases h with ⟨_, _, h, _⟩ | ⟨x, h, _⟩
  · exact h
  · rw [ha] at h; cases h
theorem row_cap {k : IntKind} {w : World} {a : Option Addr} {len cap : Nat} {zs : List Int} (h : RowIn k w a len cap zs) : len ≤ cap := by
  rcases h with ⟨_, h1, h2, _⟩ | ⟨x, _, h, _⟩ <;> omega
theorem Bytes.later {w w' : World} {a : Option Addr} {l : List Nat} (h : Bytes w a l) (hb : Below w.heap.size w w') : Bytes w' a l := by
  obtain ⟨h1, h2, h3⟩ := h
  refine ⟨h1, h2, ?_⟩
  rcases h3 with h | ⟨b, off, ha, hc⟩
  · exact .inl h
  · refine .inr ⟨b, off, ha, fun i hi => ?_⟩
    have e := hc i hi
    have hlt : b < w.heap.size := by
      rcases Nat.lt_or_ge b w.heap.size with h' | h'
      · exact h'
      · simp [World.cell?, Array.getElem?_eq_none h'] at e
    rw [← e]
    exact hb.cell (p := ⟨b, off + i, none⟩) hlt
end Go.Proofs.YtcbpppdmkhpkkaaGreat
/- Slices of bytes that the call itself makes: appending whatever slice of bytes (nil or not), and what such a slice reads as. Plain laws over any program with the element type's row at hand. -/
namespace Go.Proofs.YtcbpppdmkhpkkaaGreat
open Go.RowKit

def u8v (c : Nat) : Value := .int .u8 (c : Int)
theorem u8v_one (l : List Nat) : ∀ u ∈ l.map u8v, u.oneCell' = true := by
  intro u hu
  obtain ⟨c, _, rfl⟩ := List.mem_map.1 hu
  rfl
theorem addr_add (b off i : Nat) : (⟨b, off, none⟩ : Addr).add i = ⟨b, off + i, none⟩ := by
  unfold Addr.add
  by_cases hi0 : i = 0
  · subst hi0; simp
  · simp [hi0]
theorem getD_map_u8v {l : List Nat} {i : Nat} (h : i < l.length) : (l.map u8v)[i]? = some (u8v (l.getD i 0)) := by
  simp [h]
theorem Bytes.news {w : World} {b off : Nat} {l : List Nat} (h : ∀ i, i < l.length → w.cell? ⟨b, off + i, none⟩ = some (.int .u8 (l.getD i 0 : Nat))) :
    ∀ j u, (l.map u8v)[j]? = some u → w.cell? ((⟨b, off, none⟩ : Addr).add j) = some u := by
  intro j u hu
  have hj : j < l.length := by
    rcases Nat.lt_or_ge j l.length with h' | h'
    · exact h'
    · rw [List.getElem?_eq_none (by simpa using h')] at hu; cases hu
  rw [getD_map_u8v hj] at hu
  cases hu
  rw [addr_add]; exact h j hj

/-- What a slice of the call's own reads as. -/
theorem bytes_of_own {w : World} {base e : Nat} {a : Option Addr} {n cap : Nat} {l : List Nat} (h : w.ownsRow base e 1 (.slice a n cap) n (l.map u8v)) (h8 : ∀ c ∈ l, c < 256) :
    n = l.length ∧ Bytes w a l ∧ (a = none → cap = 0) := by
  have hn : n = l.length := by have := h.1; simpa using this.symm
  refine ⟨hn, ⟨h8, ?_, ?_⟩, ?_⟩
  · rcases h.2 with ⟨_, h0⟩ | ⟨g, cap', cur, _, _, _, hnc, hcm, _⟩
    · omega
    · unfold maxLen at hcm; omega
  · rcases h.2 with ⟨hv, h0⟩ | ⟨g, cap', cur, hv, hb, hg, hnc, hcm, hcs, ht⟩
    · left; exact List.eq_nil_of_length_eq_zero (by omega)
    · right
      simp only [Value.slice.injEq] at hv
      obtain ⟨rfl, _, rfl⟩ := hv
      refine ⟨g, 0, rfl, fun i hi => ?_⟩
      have := h.cellAt i (by omega)
      rw [Nat.zero_add, this, getD_map_u8v hi]; rfl
  · intro ha
    rcases h.2 with ⟨hv, h0⟩ | ⟨g, cap', cur, hv, _⟩
    · simp only [Value.slice.injEq] at hv; exact hv.2.2
    · subst ha; simp at hv

section
variable {P : Program} {w : World}

theorem run_append_bytes (base : Nat) (t ty e : TypeId) (i : TypeInfo) (ht : P.underlying t = some (.slice e)) (hi : P.info? e = some i) (hz : i.zero = some (.int .u8 0))
    (hsize : i.size = 1) (hby : i.bytes = 1) (v : Value) (n : Nat) (xs : List Value) (hown : w.ownsRow base e 1 v n xs)
    (ad : Option Addr) (m c : Nat) (l : List Nat) (hB : Bytes w ad l) (hm : m = l.length) (hnil : ad = none → c = 0)
    (hfit : n + m ≤ 140737488355328) (hbase : base ≤ w.heap.size) :
    ∃ a' cap' w', (Builtin.append_ #[t, t] ty #[v, .slice ad m c]).run P w = .ok (.slice a' (n + m) cap') w' ∧ w'.ownsRow base e 1 (.slice a' (n + m) cap') (n + m) (xs ++ l.map u8v) ∧ w.grownBy w' v.ownBlock := by
  obtain ⟨h8, hl, hc⟩ := hB
  have shape : ∀ (v' : Value) (w' : World) (k : Nat) (ys : List Value), w'.ownsRow base e 1 v' k ys → ∃ a' cap', v' = .slice a' k cap' := by
    intro v' w' k ys h
    rcases h.2 with ⟨hv, h0⟩ | ⟨g, cap', cur, hv, _⟩
    · exact ⟨none, 0, by rw [hv, h0]⟩
    · exact ⟨_, cap', hv⟩
  cases ad with
  | none =>
    have hc0 := hnil rfl
    subst hc0
    have hl0 : l = [] := by
      rcases hc with h | ⟨b, off, h, _⟩
      · exact h
      · cases h
    subst hl0
    have hm0 : m = 0 := by simpa using hm
    subst hm0
    obtain ⟨a', cap', hv⟩ := shape v w n xs hown
    subst hv
    refine ⟨a', cap', w, run_append_owned_none (P := P) (w := w) base t ty e i 1 ht hi _ n xs hown, by simpa using hown, World.grownBy.refl _ _⟩
  | some x =>
    have hnews : ∀ j u, (l.map u8v)[j]? = some u → w.cell? (x.add j) = some u := by
      rcases hc with h | ⟨b, off, h, hh⟩
      · subst h; intro j u hu; simp at hu
      · cases h; exact Bytes.news hh
    obtain ⟨v', w', hr, ho, hg, _⟩ := run_append_own (P := P) w base t ty e i (.int .u8 0) 1 1 ht hi hz hsize hby rfl (by decide) v n xs hown x m c (l.map u8v) (by simp [hm]) hnews (u8v_one l) (by unfold maxLen; omega) (by omega) hbase
    obtain ⟨a', cap', hv⟩ := shape v' w' (n + m) _ ho
    subst hv
    exact ⟨a', cap', w', hr, ho, hg⟩

theorem wpList_append_bytes {ops : Array Oper} {rest : List Oper} {o : Oper} {a : Act} {Q : Exit → Act → World → Prop} (hgd : o.guard = none) (s x : Operand) (t : TypeId)
    (ho : o.op = .call { callee := .builtin .append, args := #[s, x], argTypes := #[t, t] })
    (base : Nat) (e : TypeId) (i : TypeInfo) (ht : P.underlying t = some (.slice e)) (hi : P.info? e = some i) (hz : i.zero = some (.int .u8 0))
    (hsize : i.size = 1) (hby : i.bytes = 1) (v : Value) (n : Nat) (xs : List Value) (hs : a.eval s = v) (hown : w.ownsRow base e 1 v n xs)
    (ad : Option Addr) (m c : Nat) (l : List Nat) (hx : a.eval x = .slice ad m c) (hB : Bytes w ad l) (hm : m = l.length) (hnil : ad = none → c = 0)
    (hfit : n + m ≤ 140737488355328) (hbase : base ≤ w.heap.size)
    (h : ∀ a' cap' w', w'.ownsRow base e 1 (.slice a' (n + m) cap') (n + m) (xs ++ l.map u8v) → w.grownBy w' v.ownBlock → wpList P ops Q rest (a.put o.dst (.slice a' (n + m) cap')) w') : wpList P ops Q (o :: rest) a w := by
  refine wpList_plain hgd fun K hK => ?_
  obtain ⟨a', cap', w', hr, h2, h3⟩ := run_append_bytes (P := P) base t o.type e i ht hi hz hsize hby v n xs hown ad m c l hB hm hnil hfit hbase
  unfold Oper.wp execOp
  simp only [ho, resolve, invoke, builtin, Sem.run_bind, Sem.run_pure, Result.andThen_ok, List.map_toArray, List.map_cons, List.map_nil, hs, hx, hr]
  exact hK _ _ (h a' cap' w' h2 h3)
end
end Go.Proofs.YtcbpppdmkhpkkaaGreat
/- Plain words on memory: which blocks a call may have turned (Frm), a block known whole (Whole), what stays as it was. They speak of no program. -/
namespace Go.Proofs.YtcbpppdmkhpkkaaGreat
open Go.RowKit

/-- From w to w' only the blocks in S, and new ones, have turned. -/
structure Frm (S : List Nat) (w w' : World) : Prop where
  os : w'.os = w.os
  tape : w'.tape = w.tape
  output : w'.output = w.output
  size : w.heap.size ≤ w'.heap.size
  block : ∀ k, k < w.heap.size → k ∉ S → w'.heap[k]? = w.heap[k]?

theorem Frm.refl (S : List Nat) (w : World) : Frm S w w := ⟨rfl, rfl, rfl, Nat.le_refl _, fun _ _ _ => rfl⟩
theorem Frm.trans {S T U : List Nat} {a b c : World} (h : Frm S a b) (k : Frm T b c) (hS : ∀ x ∈ S, x ∈ U) (hT : ∀ x ∈ T, x ∈ U ∨ a.heap.size ≤ x) : Frm U a c :=
  ⟨k.os.trans h.os, k.tape.trans h.tape, k.output.trans h.output, Nat.le_trans h.size k.size, fun i hi hn =>
    (k.block i (Nat.lt_of_lt_of_le hi h.size) (fun hm => by rcases hT i hm with h1 | h1; exact hn h1; omega)).trans (h.block i hi (fun hm => hn (hS i hm)))⟩
theorem Frm.weak {S U : List Nat} {a b : World} (h : Frm S a b) (hS : ∀ x ∈ S, x ∈ U ∨ a.heap.size ≤ x) : Frm U a b :=
  ⟨h.os, h.tape, h.output, h.size, fun i hi hn => h.block i hi (fun hm => by rcases hS i hm with h1 | h1; exact hn h1; omega)⟩
theorem Frm.drew {S : List Nat} {a w : World} (h : Frm S a w) : Frm S a w.drew := ⟨h.os, h.tape, h.output, h.size, h.block⟩
theorem Frm.drewN {S : List Nat} {a w : World} (h : Frm S a w) (n : Nat) : Frm S a (w.drewN n) := ⟨h.os, h.tape, h.output, h.size, h.block⟩
theorem Frm.alloc {S : List Nat} {a w : World} (h : Frm S a w) (o : Obj) : Frm S a (w.alloc o) :=
  ⟨h.os, h.tape, h.output, Nat.le_trans h.size (by simp), fun i hi hn => (Below.heap_alloc w o i (Nat.lt_of_lt_of_le hi h.size)).trans (h.block i hi hn)⟩
theorem Frm.setCell {S : List Nat} {a w : World} (h : Frm S a w) {p : Addr} (hp : p.block ∈ S ∨ a.heap.size ≤ p.block) (u : Value) : Frm S a (w.setCell p u) :=
  ⟨h.os, h.tape, h.output, by simpa [World.setCell] using h.size, fun i hi hn => (Below.heap_setCell w p u i (by
    rintro rfl
    rcases hp with hp | hp
    · exact hn hp
    · omega)).trans (h.block i hi hn)⟩
theorem Frm.grown {S : List Nat} {a w w' : World} {row : Option Nat} (h : Frm S a w) (hg : w.grownBy w' row) (hr : ∀ k, row = some k → k ∈ S ∨ a.heap.size ≤ k) : Frm S a w' :=
  ⟨hg.os.trans h.os, hg.tape.trans h.tape, hg.output.trans h.output, Nat.le_trans h.size hg.size, fun i hi hn =>
    (hg.block i (Nat.lt_of_lt_of_le hi h.size) (fun e => by rcases hr i e.symm with h1 | h1; exact hn h1; omega)).trans (h.block i hi hn)⟩
theorem Frm.below {S : List Nat} {w w' : World} {B : Nat} (h : Frm S w w') (hS : ∀ x ∈ S, B ≤ x) (hB : B ≤ w.heap.size) : Below B w w' :=
  ⟨h.os, h.tape, h.output, h.size, fun k hk => h.block k (by omega) (fun hm => by have := hS k hm; omega)⟩
theorem Frm.ofBelow {w w' : World} (h : Below w.heap.size w w') : Frm [] w w' := ⟨h.os, h.tape, h.output, h.size, fun k hk _ => h.block k hk⟩
theorem Frm.cell {S : List Nat} {w w' : World} (h : Frm S w w') {p : Addr} (hp : p.block < w.heap.size) (hn : p.block ∉ S) : w'.cell? p = w.cell? p := World.cell?_of_block (w := w) (h.block p.block hp hn)
theorem Frm.frozen {S : List Nat} {w w' : World} (h : Frm S w w') {p : Addr} (hp : p.block < w.heap.size) (hn : p.block ∉ S) : w'.frozen? p = w.frozen? p := World.frozen?_of_block (w := w) (h.block p.block hp hn)

theorem Frm.own {S : List Nat} {w w' : World} (hf : Frm S w w') {base : Nat} {e : TypeId} {size : Nat} {v : Value} {n : Nat} {xs : List Value} (h : w.ownsRow base e size v n xs)
    (hn : ∀ g, v.ownBlock = some g → g ∉ S) : w'.ownsRow base e size v n xs := by
  obtain ⟨h1, h2⟩ := h
  refine ⟨h1, ?_⟩
  rcases h2 with h2 | ⟨g, cap, cur, rfl, hg, hh, r⟩
  · exact Or.inl h2
  · exact Or.inr ⟨g, cap, cur, rfl, hg, by rw [hf.block g (lt_of_block hh) (hn g rfl)]; exact hh, r⟩

theorem Frm.bytes {S : List Nat} {w w' : World} (hf : Frm S w w') {a : Option Addr} {l : List Nat} (h : Bytes w a l) (hn : ∀ x, a = some x → x.block ∉ S) : Bytes w' a l := by
  obtain ⟨h1, h2, h3⟩ := h
  refine ⟨h1, h2, ?_⟩
  rcases h3 with h | ⟨b, off, ha, hc⟩
  · exact .inl h
  · refine .inr ⟨b, off, ha, fun i hi => ?_⟩
    have e := hc i hi
    have hlt : b < w.heap.size := block_lt_of_cell (a := ⟨b, off + i, none⟩) e
    rw [← e]
    exact hf.cell (p := ⟨b, off + i, none⟩) hlt (hn ⟨b, off, none⟩ ha)

theorem bytes_lt {w : World} {a : Option Addr} {l : List Nat} (h : Bytes w a l) (hne : l ≠ []) : ∀ x, a = some x → x.block < w.heap.size := by
  intro x hx
  rcases h.2.2 with h0 | ⟨b, off, ha, hc⟩
  · exact absurd h0 hne
  · rw [ha] at hx
    cases hx
    exact block_lt_of_cell (a := ⟨b, off + 0, none⟩) (hc 0 (by cases l with | nil => exact absurd rfl hne | cons _ _ => simp))
theorem Frm.bytes' {S : List Nat} {w w' : World} (hf : Frm S w w') {a : Option Addr} {l : List Nat} (h : Bytes w a l) (hn : l ≠ [] → ∀ x, a = some x → x.block ∉ S) : Bytes w' a l := by
  by_cases hne : l = []
  · subst hne; exact ⟨by simp, by simp, .inl rfl⟩
  · exact hf.bytes h (hn hne)

/-- Block g is just these cells, none of them frozen. -/
def Whole (w : World) (g : Nat) (t : TypeId) (cs : Array Value) : Prop := w.heap[g]? = some (.cells cs t (0, 0))
section
variable {w w' : World} {g : Nat} {t : TypeId} {cs : Array Value}
theorem Whole.lt (h : Whole w g t cs) : g < w.heap.size := lt_of_block h
theorem Whole.cell (h : Whole w g t cs) (i : Nat) : w.cell? ⟨g, i, none⟩ = cs[i]? := cell_of_row w g i cs t (0, 0) h
theorem Whole.free (h : Whole w g t cs) (i : Nat) : w.frozen? ⟨g, i, none⟩ = false := frozen_of_row w g i cs t h
theorem Whole.made (w : World) (t : TypeId) (cs : Array Value) : Whole (w.alloc (.cells cs t)) w.heap.size t cs := heap_alloc_new w _
theorem Whole.drew (h : Whole w g t cs) : Whole w.drew g t cs := h
theorem Whole.alloc (h : Whole w g t cs) (o : Obj) : Whole (w.alloc o) g t cs := (Below.heap_alloc w o g h.lt).trans h
theorem Whole.put (h : Whole w g t cs) (i : Nat) (u : Value) : Whole (w.setCell ⟨g, i, none⟩ u) g t (cs.setIfInBounds i u) := heap_setCell_same w g i cs t u h
theorem Whole.other (h : Whole w g t cs) {p : Addr} (hp : g ≠ p.block) (u : Value) : Whole (w.setCell p u) g t cs := (heap_setCell_other w p g u hp).trans h
theorem Frm.whole {S : List Nat} (hf : Frm S w w') (h : Whole w g t cs) (hn : g ∉ S) : Whole w' g t cs := (hf.block g h.lt hn).trans h
theorem Whole.ne {g' : Nat} {t' : TypeId} {cs' : Array Value} (h : Whole w g t cs) (h' : Whole w g' t' cs') (hne : t ≠ t') : g ≠ g' := by
  rintro rfl
  unfold Whole at h h'
  rw [h] at h'
  injection h' with h'
  injection h' with _ ht
  exact hne ht
theorem own_ne {base : Nat} {e : TypeId} {size n : Nat} {v : Value} {xs : List Value} (h : w.ownsRow base e size v n xs) (hg : Whole w g t cs) (hne : e ≠ t) : v.ownBlock ≠ some g := by
  rcases h.2 with ⟨rfl, _⟩ | ⟨g', cap, cur, rfl, _, hh, _⟩
  · simp [Value.ownBlock]
  · intro he
    have : g' = g := by simpa [Value.ownBlock] using he
    subst this
    exact Whole.ne (t := e) hh hg hne rfl
end
end Go.Proofs.YtcbpppdmkhpkkaaGreat
/- A string's bytes as a list. They speak of no program. -/
namespace Go.Proofs.YtcbpppdmkhpkkaaGreat
open Go.RowKit

/-- A string's bytes. -/
def strL (s : ByteArray) : List Nat := s.data.toList.map UInt8.toNat
theorem strL_length (s : ByteArray) : (strL s).length = s.size := by simp [strL]
theorem strL_lt (s : ByteArray) : ∀ c ∈ strL s, c < 256 := by
  intro c hc
  simp only [strL, List.mem_map] at hc
  obtain ⟨x, _, rfl⟩ := hc
  exact x.toNat_lt
theorem strL_inj {s t : ByteArray} (h : strL s = strL t) : s = t := by
  have h1 := List.map_inj_right (f := UInt8.toNat) (fun _ _ h => UInt8.toNat_inj.1 h) |>.1 h
  exact ByteArray.ext (Array.toList_inj.1 h1)
end Go.Proofs.YtcbpppdmkhpkkaaGreat
/- 'string(b)' of whatever slice of bytes; strings of lists of bytes. They speak of no program. -/
namespace Go.Proofs.YtcbpppdmkhpkkaaGreat
open Go.RowKit

/-- The string of these bytes. -/
def strOf (l : List Nat) : ByteArray := ⟨(l.map fun c => UInt8.ofNat c).toArray⟩
theorem strOf_nums (l : List Nat) : strOfNums (l.map fun c : Nat => (c : Int)) = strOf l := by
  apply ByteArray.ext
  apply Array.toList_inj.1
  rw [strOfNums_data]
  simp [strOf]
theorem strL_strOf (l : List Nat) (h : ∀ c ∈ l, c < 256) : strL (strOf l) = l := by
  simp only [strL, strOf, List.map_map]
  conv => rhs; rw [← List.map_id l]
  apply List.map_congr_left
  intro c hc
  have := h c hc
  simp; omega
theorem strOf_strL (s : ByteArray) : strOf (strL s) = s := strL_inj (strL_strOf _ (strL_lt s))
theorem strOf_size (l : List Nat) : (strOf l).size = l.length := by simp [strOf, ByteArray.size]

theorem run_to_string {P : Program} {w : World} {src dst e : TypeId} (hs : P.underlying src = some (.slice e)) (he : P.underlying e = some (.int .u8)) (hd : P.underlying dst = some .string)
    {a : Option Addr} {n c : Nat} {l : List Nat} (hl : Bytes w a l) (hn : n = l.length) : (convert src dst (.slice a n c)).run P w = .ok (.string (strOf l)) w := by
  subst hn
  cases a with
  | none =>
    have h0 : l = [] := by
      rcases hl.2.2 with h | ⟨b, off, h, _⟩
      · exact h
      · cases h
    subst h0
    rw [run_convert_bytes_nil w src e hs he _ _ dst hd]
    rfl
  | some x =>
    rcases hl.2.2 with h | ⟨b, off, h, hc⟩
    · subst h
      rw [run_convert_bytes_string w src dst e _ _ _ hs he hd, run_bytesToString w x _ _ [] (by simp [loadCells, loadCellsFrom])]
      rfl
    · cases h
      rw [run_convert_bytes_arg w src e hs he b off l.length c (l.map fun c : Nat => (c : Int)) (by simp) (fun i hi => by rw [hc i hi]; simp [hi]) dst hd, strOf_nums]
end Go.Proofs.YtcbpppdmkhpkkaaGreat
/- Appending whatever slice of bytes (nil or not) to a row of the call's own, with where the new row lies; in a plain region (wpList_app) and in one that draws its order (step_app). They speak of no program. -/
namespace Go.Proofs.YtcbpppdmkhpkkaaGreat
open Go.RowKit

section
variable {P : Program} {w : World}
/-- What appending the bytes l to an owned value leaves. -/
structure App (w w' : World) (base : Nat) (e : TypeId) (v : Value) (n m : Nat) (xs : List Value) (l : List Nat) (a' : Option Addr) (cap' : Nat) : Prop where
  own : w'.ownsRow base e 1 (.slice a' (n + m) cap') (n + m) (xs ++ l.map u8v)
  grown : w.grownBy w' v.ownBlock
  place : (Value.slice a' (n + m) cap').ownBlock = v.ownBlock ∨ (Value.slice a' (n + m) cap').ownBlock = some w.heap.size

theorem run_app (base : Nat) (t ty e : TypeId) (i : TypeInfo) (ht : P.underlying t = some (.slice e)) (hi : P.info? e = some i) (hz : i.zero = some (.int .u8 0))
    (hsize : i.size = 1) (hby : i.bytes = 1) (v : Value) (n : Nat) (xs : List Value) (hown : w.ownsRow base e 1 v n xs)
    (ad : Option Addr) (m c : Nat) (l : List Nat) (hB : Bytes w ad l) (hm : m = l.length) (hnil : ad = none → c = 0)
    (hfit : n + m ≤ 140737488355328) (hbase : base ≤ w.heap.size) :
    ∃ a' cap' w', (Builtin.append_ #[t, t] ty #[v, .slice ad m c]).run P w = .ok (.slice a' (n + m) cap') w' ∧ App w w' base e v n m xs l a' cap' := by
  obtain ⟨h8, hl, hc⟩ := hB
  have shape : ∀ (v' : Value) (w' : World) (k : Nat) (ys : List Value), w'.ownsRow base e 1 v' k ys → ∃ a' cap', v' = .slice a' k cap' := by
    intro v' w' k ys h
    rcases h.2 with ⟨hv, h0⟩ | ⟨g, cap', cur, hv, _⟩
    · exact ⟨none, 0, by rw [hv, h0]⟩
    · exact ⟨_, cap', hv⟩
  cases ad with
  | none =>
    have hc0 := hnil rfl
    subst hc0
    have hl0 : l = [] := by
      rcases hc with h | ⟨b, off, h, _⟩
      · exact h
      · cases h
    subst hl0
    have hm0 : m = 0 := by simpa using hm
    subst hm0
    obtain ⟨a', cap', hv⟩ := shape v w n xs hown
    subst hv
    exact ⟨a', cap', w, run_append_owned_none (P := P) (w := w) base t ty e i 1 ht hi _ n xs hown, by simpa using hown, World.grownBy.refl _ _, .inl rfl⟩
  | some x =>
    have hnews : ∀ j u, (l.map u8v)[j]? = some u → w.cell? (x.add j) = some u := by
      rcases hc with h | ⟨b, off, h, hh⟩
      · subst h; intro j u hu; simp at hu
      · cases h; exact Bytes.news hh
    obtain ⟨v', w', hr, ho, hg, _, hpl⟩ := run_append_own_at (P := P) w base t ty e i (.int .u8 0) 1 1 ht hi hz hsize hby rfl (by decide) v n xs hown x m c (l.map u8v) (by simp [hm]) hnews (u8v_one l) (by unfold maxLen; omega) (by omega) hbase
    obtain ⟨a', cap', hv⟩ := shape v' w' (n + m) _ ho
    subst hv
    exact ⟨a', cap', w', hr, ho, hg, hpl⟩

theorem wpList_app {ops : Array Oper} {rest : List Oper} {o : Oper} {a : Act} {Q : Exit → Act → World → Prop} (hgd : o.guard = none) (s x : Operand) (t : TypeId)
    (ho : o.op = .call { callee := .builtin .append, args := #[s, x], argTypes := #[t, t] })
    (base : Nat) (e : TypeId) (i : TypeInfo) (ht : P.underlying t = some (.slice e)) (hi : P.info? e = some i) (hz : i.zero = some (.int .u8 0))
    (hsize : i.size = 1) (hby : i.bytes = 1) (v : Value) (n : Nat) (xs : List Value) (hs : a.eval s = v) (hown : w.ownsRow base e 1 v n xs)
    (ad : Option Addr) (m c : Nat) (l : List Nat) (hx : a.eval x = .slice ad m c) (hB : Bytes w ad l) (hm : m = l.length) (hnil : ad = none → c = 0)
    (hfit : n + m ≤ 140737488355328) (hbase : base ≤ w.heap.size)
    (h : ∀ a' cap' w', App w w' base e v n m xs l a' cap' → wpList P ops Q rest (a.put o.dst (.slice a' (n + m) cap')) w') : wpList P ops Q (o :: rest) a w := by
  refine wpList_plain hgd fun K hK => ?_
  obtain ⟨a', cap', w', hr, h2⟩ := run_app (P := P) base t o.type e i ht hi hz hsize hby v n xs hown ad m c l hB hm hnil hfit hbase
  unfold Oper.wp execOp
  simp only [ho, resolve, invoke, builtin, Sem.run_bind, Sem.run_pure, Result.andThen_ok, List.map_toArray, List.map_cons, List.map_nil, hs, hx, hr]
  exact hK _ _ (h a' cap' w' h2)

theorem step_app {ops : Array Oper} {o : Oper} {a : Act} {K : Act → World → Prop} {Q : Exit → Act → World → Prop} {E : Prop} (hgd : o.guard = none) (s x : Operand) (t : TypeId)
    (ho : o.op = .call { callee := .builtin .append, args := #[s, x], argTypes := #[t, t] })
    (base : Nat) (e : TypeId) (i : TypeInfo) (ht : P.underlying t = some (.slice e)) (hi : P.info? e = some i) (hz : i.zero = some (.int .u8 0))
    (hsize : i.size = 1) (hby : i.bytes = 1) (v : Value) (n : Nat) (xs : List Value) (hs : a.eval s = v) (hown : w.ownsRow base e 1 v n xs)
    (ad : Option Addr) (m c : Nat) (l : List Nat) (hx : a.eval x = .slice ad m c) (hB : Bytes w ad l) (hm : m = l.length) (hnil : ad = none → c = 0)
    (hfit : n + m ≤ 140737488355328) (hbase : base ≤ w.heap.size)
    (h : ∀ a' cap' w', App w w' base e v n m xs l a' cap' → K (a.put o.dst (.slice a' (n + m) cap')) w') :
    if Region.wanted o (yielded ops a.tmps) = true then Oper.wp P o a w K Q else E := by
  have hw : Region.wanted o (yielded ops a.tmps) = true := by simp [Region.wanted, hgd]
  rw [if_pos hw]
  obtain ⟨a', cap', w', hr, h2⟩ := run_app (P := P) base t o.type e i ht hi hz hsize hby v n xs hown ad m c l hB hm hnil hfit hbase
  unfold Oper.wp execOp
  simp only [ho, resolve, invoke, builtin, Sem.run_bind, Sem.run_pure, Result.andThen_ok, List.map_toArray, List.map_cons, List.map_nil, hs, hx, hr]
  exact h a' cap' w' h2
end
end Go.Proofs.YtcbpppdmkhpkkaaGreat
/- Plain arithmetic: a number's bytes, the greatest first (be), and back (val). It speaks of no program. -/
namespace Go.Proofs.YtcbpppdmkhpkkaaGreat

def be : Nat → Nat → List Nat
  | 0, _ => []
  | k + 1, n => be k (n / 256) ++ [n % 256]
def val (l : List Nat) : Nat := l.foldl (fun x c => x * 256 + c) 0

theorem be_length (k n : Nat) : (be k n).length = k := by
  induction k generalizing n with
  | zero => rfl
  | succ k ih => simp [be, ih]
theorem be_lt (k n : Nat) : ∀ c ∈ be k n, c < 256 := by
  induction k generalizing n with
  | zero => simp [be]
  | succ k ih =>
    intro c hc
    rcases List.mem_append.1 hc with h | h
    · exact ih _ c h
    · simp at h; omega
theorem val_snoc (l : List Nat) (c : Nat) : val (l ++ [c]) = val l * 256 + c := by simp [val]
theorem val_nil : val [] = 0 := rfl
theorem val_be (k n : Nat) (h : n < 256 ^ k) : val (be k n) = n := by
  induction k generalizing n with
  | zero => simp at h; subst h; rfl
  | succ k ih =>
    rw [be, val_snoc, ih (n / 256) (by rw [Nat.pow_succ] at h; omega)]; omega
theorem snoc_ind {p : List Nat → Prop} (h0 : p []) (h1 : ∀ l c, p l → p (l ++ [c])) (l : List Nat) : p l := by
  have H : ∀ m : List Nat, p m.reverse := by
    intro m
    induction m with
    | nil => exact h0
    | cons c m ih => rw [List.reverse_cons]; exact h1 _ _ ih
  have := H l.reverse
  rwa [List.reverse_reverse] at this
theorem val_lt (l : List Nat) (h : ∀ c ∈ l, c < 256) : val l < 256 ^ l.length := by
  revert h
  refine snoc_ind (p := fun l => (∀ c ∈ l, c < 256) → val l < 256 ^ l.length) ?_ ?_ l
  · intro _; simp [val]
  · intro l c ih h
    have h1 := ih (fun x hx => h x (by simp [hx]))
    have h2 := h c (by simp)
    rw [val_snoc, List.length_append, List.length_singleton, Nat.pow_succ]; omega
theorem be_val (l : List Nat) (h : ∀ c ∈ l, c < 256) : be l.length (val l) = l := by
  revert h
  refine snoc_ind (p := fun l => (∀ c ∈ l, c < 256) → be l.length (val l) = l) ?_ ?_ l
  · intro _; rfl
  · intro l c ih h
    have h1 := ih (fun x hx => h x (by simp [hx]))
    have h2 := h c (by simp)
    rw [val_snoc, List.length_append, List.length_singleton, be, show (val l * 256 + c) / 256 = val l by omega, show (val l * 256 + c) % 256 = c by omega, h1]
theorem val_zeros (m : Nat) (l : List Nat) : val (List.replicate m 0 ++ l) = val l := by
  induction m with
  | zero => rfl
  | succ m ih =>
    rw [← ih]
    simp [val, List.replicate_succ]
/-- The eight bytes of a number, each by itself. -/
theorem be8 (n : Nat) (h : n < 18446744073709551616) : be 8 n = [n / 72057594037927936, n / 281474976710656 % 256, n / 1099511627776 % 256, n / 4294967296 % 256, n / 16777216 % 256, n / 65536 % 256, n / 256 % 256, n % 256] := by
  simp only [be, List.nil_append, List.cons_append, List.cons.injEq, and_true]
  repeat' apply And.intro
  all_goals omega
theorem be_drop (k n : Nat) (hk : k ≤ 8) : (be 8 n).drop (8 - k) = be k n := by
  have H : ∀ (m k n : Nat), (be (m + k) n).drop m = be k n := by
    intro m k
    induction k with
    | zero => intro n; simp [be, be_length]
    | succ k ih =>
      intro n
      show (be (m + k) (n / 256) ++ [n % 256]).drop m = _
      rw [List.drop_append_of_le_length (by rw [be_length]; omega), ih]; rfl
  have := H (8 - k) k n
  rwa [show 8 - k + k = 8 by omega] at this
end Go.Proofs.YtcbpppdmkhpkkaaGreat
/- Contract of bytes.Clone: for every slice of bytes, nil or not: a row of the call's own with the same bytes. -/
namespace Go.Proofs.YtcbpppdmkhpkkaaGreat
open Go.RowKit

theorem Tryz.info5 : (Tryz.prog.info? 5).map (fun i => (i.zero, i.size, i.bytes)) = some (some (.int .u8 0), 1, 1) := by kernel_rfl

/-- What a call hands back that makes bytes of its own: a slice value, the row that it owns from base on. -/
def Own (w w' : World) (l : List Nat) (e : Ending) : Prop :=
  ∃ a' cap', e = .returned (.slice a' l.length cap') ∧ w'.ownsRow w.heap.size 5 1 (.slice a' l.length cap') l.length (l.map u8v) ∧ Frm [] w w'

theorem clone_any (a : Option Addr) (n cap : Nat) (l : List Nat) (w : World) (hl : Bytes w a l) (hn : n = l.length) (hnil : a = none → cap = 0) (hfit : n ≤ 140737488355328) :
    Calls Tryz.prog 88 #[.slice a n cap] w fun e w' => Own w w' l e := by
  have hq := fun (w : World) (a : Option Addr) (n c n' c' : Nat) => Lib.run_eql_slice_nil (P := Tryz.prog) w 36 5 a n c n' c' Tryz.underlying36
  cases a with
  | none =>
    have h0 : l = [] := by
      rcases hl.2.2 with h | ⟨b, off, h, _⟩
      · exact h
      · cases h
    subst h0
    obtain rfl := hnil rfl
    subst hn
    go_enter Tryz.func88, Tryz.ntmps88
    go_wp2
    go_ret
    exact ⟨none, 0, rfl, World.ownsRow_nil _ _ _ _, Frm.refl _ _⟩
  | some x =>
    obtain ⟨i0, hi, hz0, hz1, hz2⟩ := info_parts Tryz.info5
    have HL := Lib.hid hl; clear hl
    have HN := Lib.hid hn; clear hn
    have HI := Lib.hid hi; clear hi
    have HZ0 := Lib.hid hz0; clear hz0
    have HZ1 := Lib.hid hz1; clear hz1
    have HZ2 := Lib.hid hz2; clear hz2
    clear hnil
    go_enter Tryz.func88, Tryz.ntmps88
    go_wp2_with (at_builtin; refine wpList_append_bytes rfl (.tmp 5) (.tmp 6) 36 rfl w.heap.size 5 i0 Tryz.underlying36 HI.out HZ0.out HZ1.out HZ2.out _ 0 [] rfl ?own1 _ _ _ l rfl ?b1 HN.out ?nil1 ?fit1 ?base1 ?_)
    case own1 => exact World.ownsRow_lit w #[] 0 (Nat.le_refl _) (by unfold maxLen; omega) rfl
    case b1 => exact ((Frm.refl [] w).alloc _).bytes HL.out (by simp)
    case nil1 => intro h; cases h
    case fit1 => omega
    case base1 => simp
    intro a2 cap2 w2 hown2 hg2
    have hf2 : Frm [] w w2 := ((Frm.refl [] w).alloc _).grown hg2 (fun k hk => .inr (by simp [Value.ownBlock] at hk; omega))
    clear hg2
    go_wp2
    go_ret
    have h := HN.out
    subst h
    exact ⟨a2, cap2, rfl, hown2, hf2⟩
/-- What comes of a row of the call's own. -/
theorem own_bytes {w' : World} {base : Nat} {a : Option Addr} {cap : Nat} {l : List Nat} (h : w'.ownsRow base 5 1 (.slice a l.length cap) l.length (l.map u8v)) (h8 : ∀ c ∈ l, c < 256) :
    Bytes w' a l ∧ (a = none → cap = 0) := ⟨(bytes_of_own h h8).2.1, (bytes_of_own h h8).2.2⟩
end Go.Proofs.YtcbpppdmkhpkkaaGreat
/- Contracts of the reference's Put and PutBytes: a number's bytes, or how many and they, behind a row of the call's own. -/
namespace Go.Proofs.YtcbpppdmkhpkkaaGreat
open Go.RowKit

/-- The block of an address. -/
def ob : Option Addr → List Nat
  | some x => [x.block]
  | none => []
theorem ob_some {a : Option Addr} {n c g : Nat} : (Value.slice a n c).ownBlock = some g ↔ g ∈ ob a := by cases a <;> simp [Value.ownBlock, ob, eq_comm]

/-- What putting the bytes b behind an own row leaves. -/
def RPut (w : World) (base : Nat) (a : Option Addr) (l b : List Nat) (e : Ending) (w' : World) : Prop :=
  ∃ a' cap', e = .returned (.slice a' (l ++ b).length cap') ∧ w'.ownsRow base 5 1 (.slice a' (l ++ b).length cap') (l ++ b).length ((l ++ b).map u8v) ∧ Frm (ob a) w w' ∧
    ∀ g ∈ ob a', g ∈ ob a ∨ w.heap.size ≤ g

theorem be_getD (k n m : Nat) (hm : m < k) : (be k n).getD m 0 = n / 256 ^ (k - 1 - m) % 256 := by
  induction k generalizing n with
  | zero => omega
  | succ k ih =>
    by_cases h : m < k
    · have e : (be (k + 1) n).getD m 0 = (be k (n / 256)).getD m 0 := by
        simp [be, List.getD, List.getElem?_append, be_length, h]
      rw [e, ih _ h, Nat.div_div_eq_div_mul, show k + 1 - 1 - m = (k - 1 - m) + 1 by omega, Nat.pow_succ, Nat.mul_comm]
    · have : m = k := by omega
      subst this
      simp [be, List.getD, be_length]
theorem be_take_succ (k n m : Nat) (hm : m < k) : (be k n).take (m + 1) = (be k n).take m ++ [n / 256 ^ (k - 1 - m) % 256] := by
  rw [take_snoc_getD (by rw [be_length]; exact hm), be_getD k n m hm]

theorem one_byte (w : World) (y : Nat) (t : TypeId) : Bytes (w.alloc (.cells #[.int .u8 ((y : Int) % 256)] t)) (some ⟨w.heap.size, 0, none⟩) [y % 256] := by
  refine ⟨fun c hc => by simp at hc; omega, by simp, .inr ⟨_, _, rfl, fun i hi => ?_⟩⟩
  simp at hi
  subst hi
  rw [(Whole.made w t _).cell]
  rfl
/-- What holds at the head of Put's loop: so many bytes are put. -/
def RpRel (base k ln n : Nat) (a : Option Addr) (l : List Nat) (w : World) (b i : Value) (wr : World) : Prop :=
  ∃ (m : Nat) (a' : Option Addr) (cap' : Nat), m ≤ k ∧ i = .int .i64 ((k : Int) - 1 - m) ∧ b = .slice a' (ln + m) cap' ∧
      wr.ownsRow base 5 1 (.slice a' (ln + m) cap') (ln + m) ((l ++ (be k n).take m).map u8v) ∧ Frm (ob a) w wr ∧ ∀ g ∈ ob a', g ∈ ob a ∨ w.heap.size ≤ g
theorem rp_step {base k ln n m : Nat} {a a' a2 : Option Addr} {cap' cap2 : Nat} {l : List Nat} {w wr wx w2 : World} {c : Nat} {b2 i2 : Value} (hm : m < k) (hc : c = n / 256 ^ (k - 1 - m) % 256)
    (hf : Frm (ob a) w wr) (hg : ∀ g ∈ ob a', g ∈ ob a ∨ w.heap.size ≤ g) (hx : Frm [] wr wx)
    (h : App wx w2 base 5 (.slice a' (ln + m) cap') (ln + m) 1 ((l ++ (be k n).take m).map u8v) [c] a2 cap2) (hi : i2 = .int .i64 ((k : Int) - 1 - (m + 1 : Nat))) (hb : b2 = .slice a2 (ln + m + 1) cap2) :
    RpRel base k ln n a l w b2 i2 w2 := by
  refine ⟨m + 1, a2, cap2, by omega, hi, by rw [hb]; rfl, ?_, ?_, ?_⟩
  · have := h.own
    rw [← List.map_append, List.append_assoc, hc, ← be_take_succ k n m hm] at this
    exact this
  · refine (hf.trans hx (fun x h => h) (by simp)).grown h.grown ?_
    intro g hgg
    exact hg g (ob_some.1 hgg)
  · intro g hgg
    rcases h.place with hp | hp
    · exact hg g (ob_some.1 (hp ▸ ob_some.2 hgg))
    · have := (ob_some (n := ln + m + 1) (c := cap2)).2 hgg
      rw [hp] at this
      right
      have h1 := hx.size
      have h2 := hf.size
      simp at this
      omega

set_option maxRecDepth 100000 in
set_option maxHeartbeats 2000000 in
theorem ref_put_any (base : Nat) (a : Option Addr) (cap : Nat) (l : List Nat) (n k : Nat) (w : World) (hown : w.ownsRow base 5 1 (.slice a l.length cap) l.length (l.map u8v)) (hbase : base ≤ w.heap.size)
    (hn : n < 18446744073709551616) (hk : k ≤ 8) (hfit : l.length + k ≤ 140737488355328) :
    Calls Tryz.prog 56 #[.slice a l.length cap, .int .u64 n, .int .i64 k] w (RPut w base a l (be k n)) := by
  obtain ⟨i0, hi, hz0, hz1, hz2⟩ := info_parts Tryz.info5
  have HI := Lib.hid hi; clear hi
  have HZ0 := Lib.hid hz0; clear hz0
  have HZ1 := Lib.hid hz1; clear hz1
  have HZ2 := Lib.hid hz2; clear hz2
  obtain ⟨ln, hln⟩ : ∃ ln, ln = l.length := ⟨_, rfl⟩
  rw [← hln] at hown hfit ⊢
  have HO := Lib.hid hown; clear hown
  have HL := Lib.hid hln; clear hln
  go_enter Tryz.func56, Tryz.ntmps56
  go_wp2
  go_loopw [0, 7, 8, 9] (fun b i _ _ wr => RpRel base k ln n a l w b i wr) (fun _ i _ _ _ => (intOf i + 1).toNat)
  case atStart => exact ⟨0, a, cap, Nat.zero_le _, by simp, by simp, by simpa using HO.out, Frm.refl _ _, fun g hg => .inl hg⟩
  case round =>
    obtain ⟨m, a', cap', hm, rfl, rfl, hown, hf, hg⟩ := hrel
    have HF := Lib.hid hf; clear hf
    have HG := Lib.hid hg; clear hg
    obtain ⟨xs, hxs⟩ : ∃ xs, xs = (l ++ (be k n).take m).map u8v := ⟨_, rfl⟩
    rw [← hxs] at hown
    have HXS := Lib.hid hxs; clear hxs
    have HO1 := Lib.hid hown; clear hown
    by_cases hlt : m < k
    · obtain ⟨t, ht⟩ : ∃ t : Nat, t = k - 1 - m := ⟨_, rfl⟩
      have et : (k : Int) - 1 - m = (t : Int) := by omega
      have hkb : (k : Int) ≤ 8 := by omega
      have hmt : Hid (m + t + 1 = k) := by show m + t + 1 = k; omega
      have HT := Lib.hid ht; clear ht
      rw [et]
      clear et
      have htk : t < 8 := by have := hmt.out; omega
      go_wp2
      go_loop [8, 9] (fun x j => ∃ q : Nat, q ≤ t ∧ j = .int .i64 q ∧ x = .int .u64 (n / 256 ^ q : Nat)) (fun _ j => t - (intOf j).toNat)
      case atStart => exact ⟨0, Nat.zero_le _, rfl, by simp⟩
      case round =>
        obtain ⟨q, hq, rfl, rfl⟩ := hrel
        have hx : n / 256 ^ q < 18446744073709551616 := Nat.lt_of_le_of_lt (Nat.div_le_self _ _) hn
        have hd : n / 256 ^ (q + 1) = n / 256 ^ q / 256 := by rw [Nat.pow_succ, Nat.div_div_eq_div_mul]
        obtain ⟨y, hy⟩ : ∃ y, y = n / 256 ^ q := ⟨_, rfl⟩
        rw [← hy] at hx hd ⊢
        have HY := Lib.hid hy; clear hy
        have HD := Lib.hid hd; clear hd
        by_cases hqt : q < t
        · go_wp2
          go_round
          case rel => exact ⟨q + 1, by omega, by go_num, same_int (by rw [HD.out]; omega)⟩
          case measure => simp [intOf]; omega
        · obtain rfl : q = t := by omega
          go_wp2_with (at_builtin; refine wpList_app rfl (.tmp 24) (.tmp 28) 36 rfl base 5 i0 Tryz.underlying36 HI.out HZ0.out HZ1.out HZ2.out (.slice a' (ln + m) cap') (ln + m) xs rfl ?own1 _ _ _ [y % 256] rfl ?b1 rfl (by simp) ?fit1 ?base1 ?_)
          case own1 => exact HO1.out.alloc _
          case b1 => exact one_byte wr y 5
          case fit1 => omega
          case base1 => have := HF.out.size; simp; omega
          intro a2 cap2 w2 happ
          have HAPP := Lib.hid happ; clear happ
          go_wp2
          go_roundw
          case rel =>
            have e : q = k - 1 - m := HT.out
            refine rp_step (c := y % 256) hlt (by rw [HY.out, e]) HF.out HG.out ((Frm.refl [] wr).alloc _) (by rw [← HXS.out]; exact HAPP.out) ?_ rfl
            have := hmt.out
            congr 1
            omega
          case measure => simp [intOf]
    · obtain rfl : m = k := by omega
      have e1 : (m : Int) - 1 - m = -1 := by omega
      rw [e1]
      clear e1
      go_wp2
      go_ret
      have e : (be m n).take m = be m n := List.take_of_length_le (by rw [be_length]; exact Nat.le_refl _)
      have e2 : (l ++ be m n).length = ln + m := by rw [List.length_append, be_length, HL.out]
      have h1 := HO1.out
      rw [HXS.out, e] at h1
      exact ⟨a', cap', by rw [e2]; rfl, by rw [e2]; exact h1, HF.out, HG.out⟩

theorem RPut.mk {w w1 w2 : World} {base : Nat} {a a1 a2 : Option Addr} {cap1 cap2 : Nat} {l b c : List Nat}
    (hf1 : Frm (ob a) w w1) (hg1 : ∀ g ∈ ob a1, g ∈ ob a ∨ w.heap.size ≤ g)
    (h : App w1 w2 base 5 (.slice a1 (l ++ b).length cap1) (l ++ b).length c.length ((l ++ b).map u8v) c a2 cap2) :
    RPut w base a l (b ++ c) (.returned (.slice a2 ((l ++ b).length + c.length) cap2)) w2 := by
  have e : (l ++ (b ++ c)).length = (l ++ b).length + c.length := by simp; omega
  refine ⟨a2, cap2, by rw [e], ?_, hf1.grown h.grown ?_, ?_⟩
  · have := h.own
    rw [← List.map_append] at this
    rw [e, ← List.append_assoc]; exact this
  · intro g hg; exact hg1 g (ob_some.1 hg)
  · intro g hgg
    rcases h.place with hp | hp
    · exact hg1 g (ob_some.1 (hp ▸ ob_some.2 hgg))
    · have := (ob_some (n := (l ++ b).length + c.length) (c := cap2)).2 hgg
      rw [hp] at this
      right
      have h1 := hf1.size
      simp at this
      omega

end Go.Proofs.YtcbpppdmkhpkkaaGreat
/- Contracts of pack.digits and pack.value: a number's eight bytes, the greatest first, and back. -/
namespace Go.Proofs.YtcbpppdmkhpkkaaGreat
open Go.RowKit

/-- What digits hands back: the eight bytes, each by a name. -/
def Eight (n : Nat) (w w' : World) (e : Ending) : Prop :=
  ∃ d0 d1 d2 d3 d4 d5 d6 d7 : Nat, be 8 n = [d0, d1, d2, d3, d4, d5, d6, d7] ∧
    e = .returned (.agg #[.int .u8 d0, .int .u8 d1, .int .u8 d2, .int .u8 d3, .int .u8 d4, .int .u8 d5, .int .u8 d6, .int .u8 d7]) ∧ Below w.heap.size w w'

set_option maxHeartbeats 4000000 in
theorem digits_any (n : Nat) (w : World) (hn : n < 18446744073709551616) :
    Calls Tryz.prog 125 #[.int .u64 n] w fun e w' => Eight n w w' e := by
  have H8 := Lib.hid (be8 n hn)
  go_enter Tryz.func125, Tryz.ntmps125
  go_wp2
  refine wp_loop_rounds 9 ?_
  iterate 9 (rw [rounds_succ]; go_wp2)
  refine bodyPost_ret (results_cell_row (P := Tryz.prog) rfl _ _ w.heap.size _ _ _ _ rfl (heap_alloc2_old w _ _) Tryz.underlying201 rfl (by kernel_rfl)) rfl ?_
  exact ⟨_, _, _, _, _, _, _, _, H8.out, rfl, ((Below.refl _ _).alloc (Nat.le_refl _) _).alloc (by simp) _⟩
end Go.Proofs.YtcbpppdmkhpkkaaGreat
/- Writer: what a Writer reads as (Wr); contract of Writer.put: the bytes are put behind. -/
namespace Go.Proofs.YtcbpppdmkhpkkaaGreat
open Go.RowKit

/-- The Writer at block p has put the bytes l; its blocks, all from B on, are F. -/
def Wr (w : World) (B p : Nat) (F : List Nat) (l : List Nat) : Prop :=
  (∀ c ∈ l, c < 256) ∧ B ≤ p ∧
  ((l = [] ∧ F = [p] ∧ Whole w p 120 #[.pointer none, .int .i64 0]) ∨
   ∃ r a cap, Whole w p 120 #[.pointer (some ⟨r, 0, none⟩), .int .i64 (l.length : Nat)] ∧ Whole w r 166 #[.slice a l.length cap] ∧
     w.ownsRow B 5 1 (.slice a l.length cap) l.length (l.map u8v) ∧ B ≤ r ∧ F = p :: r :: (Value.slice a l.length cap).ownBlock.toList)

/-- What putting the bytes b leaves. -/
def Put (w w' : World) (B p : Nat) (F : List Nat) (l b : List Nat) : Prop :=
  ∃ F', Wr w' B p F' (l ++ b) ∧ Frm F w w' ∧ ∀ x ∈ F', x ∈ F ∨ w.heap.size ≤ x
def PutEnd (w : World) (B p : Nat) (F : List Nat) (l b : List Nat) (e : Ending) (w' : World) : Prop := e = .returned (.tuple #[]) ∧ Put w w' B p F l b

/-- Behind the append: the two stores that are left of put. -/
theorem put_end {B p r : Nat} {sa : Option Addr} {scap k n : Nat} {l b : List Nat} {w w1 : World} {m : Nat} {a' : Option Addr} {cap' : Nat} (hk : k = l.length) (hn : n = b.length) (h8 : ∀ c ∈ l, c < 256) (h8b : ∀ c ∈ b, c < 256)
    (hp : Whole w p 120 #[.pointer (some ⟨r, 0, none⟩), .int .i64 (k : Nat)]) (hr : Whole w r 166 #[.slice sa k scap])
    (hown : w.ownsRow B 5 1 (.slice sa k scap) k (l.map u8v)) (hBr : B ≤ r) (hBp : B ≤ p)
    (h : App (w.drewN m) w1 B 5 (.slice sa k scap) k n (l.map u8v) b a' cap') :
    Put w ((w1.setCell ⟨r, 0, none⟩ (.slice a' (k + n) cap')).setCell ⟨p, 1, none⟩ (.int .i64 ((k : Int) + n))) B p (p :: r :: (Value.slice sa k scap).ownBlock.toList) l b := by
  subst hk; subst hn
  have hpr : p ≠ r := hp.ne hr (by decide)
  have ho : ∀ g, (Value.slice sa l.length scap).ownBlock = some g → g ≠ p ∧ g ≠ r := fun g hg =>
    ⟨fun e => own_ne hown hp (by decide) (e ▸ hg), fun e => own_ne hown hr (by decide) (e ▸ hg)⟩
  have hf1 : Frm ((Value.slice sa l.length scap).ownBlock.toList) w w1 := ((Frm.refl _ w).drewN m).grown h.grown (fun k hk => .inl (by rw [hk]; simp))
  have hp1 : Whole w1 p _ _ := hf1.whole hp (by
    intro hm
    cases hg : (Value.slice sa l.length scap).ownBlock with
    | none => rw [hg] at hm; simp at hm
    | some g => rw [hg] at hm; simp at hm; exact (ho g hg).1 hm.symm)
  have hr1 : Whole w1 r _ _ := hf1.whole hr (by
    intro hm
    cases hg : (Value.slice sa l.length scap).ownBlock with
    | none => rw [hg] at hm; simp at hm
    | some g => rw [hg] at hm; simp at hm; exact (ho g hg).2 hm.symm)
  have hlen : (l ++ b).length = l.length + b.length := List.length_append
  have hp2 := (hp1.other (p := ⟨r, 0, none⟩) hpr (.slice a' (l.length + b.length) cap')).put 1 (.int .i64 ((l.length : Int) + b.length))
  have hr2 := (hr1.put 0 (.slice a' (l.length + b.length) cap')).other (p := ⟨p, 1, none⟩) (Ne.symm hpr) (.int .i64 ((l.length : Int) + b.length))
  have own1 := h.own
  have op1 := own_ne own1 hp1 (by decide)
  have or1 := own_ne own1 hr1 (by decide)
  have own2 := ownsRow_setCell_other own1 (a := ⟨r, 0, none⟩) or1 (.slice a' (l.length + b.length) cap')
  have own3 := ownsRow_setCell_other own2 (a := ⟨p, 1, none⟩) op1 (.int .i64 ((l.length : Int) + b.length))
  refine ⟨p :: r :: (Value.slice a' (l.length + b.length) cap').ownBlock.toList, ⟨?_, hBp, .inr ⟨r, a', cap', ?_, ?_, ?_, hBr, ?_⟩⟩, ?_, ?_⟩
  · intro c hc
    rcases List.mem_append.1 hc with h | h
    · exact h8 c h
    · exact h8b c h
  · rw [hlen]; simpa using hp2
  · rw [hlen]; simpa using hr2
  · rw [hlen, List.map_append]; exact own3
  · rw [hlen]
  · refine ((hf1.weak (U := p :: r :: (Value.slice sa l.length scap).ownBlock.toList) ?_).setCell (.inl (by simp)) _).setCell (.inl (by simp)) _
    intro x hx; left; simp [hx]
  · intro x hx
    simp only [List.mem_cons] at hx
    rcases hx with rfl | rfl | hx
    · left; simp
    · left; simp
    · rcases h.place with hpl | hpl
      · left; rw [hpl] at hx; simp [hx]
      · right
        rw [hpl] at hx
        simp at hx
        omega

set_option maxHeartbeats 1000000 in
/-- put where the row is there. -/
theorem put_on (B p r : Nat) (sa : Option Addr) (scap : Nat) (l : List Nat) (a : Option Addr) (n cap : Nat) (b : List Nat) (w : World) (h8 : ∀ c ∈ l, c < 256)
    (hp : Whole w p 120 #[.pointer (some ⟨r, 0, none⟩), .int .i64 (l.length : Nat)]) (hr : Whole w r 166 #[.slice sa l.length scap])
    (hown : w.ownsRow B 5 1 (.slice sa l.length scap) l.length (l.map u8v)) (hBr : B ≤ r) (hBp : B ≤ p)
    (hb : Bytes w a b) (hn : n = b.length) (hnil : a = none → cap = 0) (hfit : l.length + n ≤ 140737488355328) :
    Calls Tryz.prog 126 #[.pointer (some ⟨p, 0, none⟩), .slice a n cap] w (PutEnd w B p (p :: r :: (Value.slice sa l.length scap).ownBlock.toList) l b) := by
  have hnp : p ≠ r := hp.ne hr (by decide)
  have hBw : B ≤ w.heap.size := Nat.le_of_lt (Nat.lt_of_le_of_lt hBp hp.lt)
  obtain ⟨i0, hi, hz0, hz1, hz2⟩ := info_parts Tryz.info5
  obtain ⟨k, hk⟩ : ∃ k, k = l.length := ⟨_, rfl⟩
  rw [← hk] at hp hr hown hfit ⊢
  have keep : ∀ (m : Nat) (w1 : World), (w.drewN m).grownBy w1 (Value.slice sa k scap).ownBlock → Whole w1 p 120 #[.pointer (some ⟨r, 0, none⟩), .int .i64 (k : Nat)] ∧ Whole w1 r 166 #[.slice sa k scap] := fun m w1 hg =>
    ⟨(hg.block p hp.lt (fun e => own_ne hown hp (by decide) e.symm)).trans hp, (hg.block r hr.lt (fun e => own_ne hown hr (by decide) e.symm)).trans hr⟩
  have KEEP := Lib.hid keep; clear keep
  have c0 := hp.cell 0
  have c1 := hp.cell 1
  have cr := hr.cell 0
  have fp0 := hp.free 0
  have fp1 := hp.free 1
  have fr := hr.free 0
  simp at c0 c1 cr
  have hlt : decide ((k : Int) < (k : Int)) = false := by simp
  have h8b := hb.1
  have FIN := Lib.hid (fun (m : Nat) (w1 : World) (a' : Option Addr) (cap' : Nat) => put_end (B := B) (p := p) (r := r) (sa := sa) (scap := scap) (k := k) (n := n) (l := l) (b := b) (w := w) (w1 := w1) (m := m) (a' := a') (cap' := cap') hk hn h8 h8b hp hr hown hBr hBp)
  clear h8 h8b hp hr
  have HO := Lib.hid hown; clear hown
  have HB := Lib.hid hb; clear hb
  have HN := Lib.hid hn; clear hn
  have HK := Lib.hid hk; clear hk
  go_enter Tryz.func126, Tryz.ntmps126
  go_wp2
  go_quiet (fail)
  go_wp2
  go_region_law ((refine step_app rfl (.tmp 43) (.tmp 44) 36 rfl B 5 i0 Tryz.underlying36 hi hz0 hz1 hz2 (.slice sa k scap) k _ rfl HO.out _ _ _ b rfl ?_ HN.out hnil hfit ?_ ?_; (exact HB.out); (exact hBw); intro a' cap' w1 happ; have HA := Lib.hid happ; obtain ⟨hp1, hr1⟩ := KEEP.out _ _ happ.grown; have q0 := hp1.cell 0; have q1 := hr1.cell 0; have q2 := hr1.free 0; simp at q0 q1; clear happ hp1 hr1))
  all_goals
    obtain ⟨hp1, hr1⟩ := KEEP.out _ _ HA.out.grown
    have hp2 := (hp1.other (p := ⟨r, 0, none⟩) hnp (.slice a' (k + n) cap'))
    have hr2 := (hr1.put 0 (.slice a' (k + n) cap'))
    have s0 := hp2.cell 0
    have s1 := hr2.cell 0
    have s2 := hp2.cell 1
    have s3 := hp2.free 1
    simp at s0 s1 s2
    clear hp1 hr1 hp2 hr2
    go_wp2
    go_end0
    exact ⟨rfl, FIN.out _ _ _ _ HA.out⟩
end Go.Proofs.YtcbpppdmkhpkkaaGreat
/- Contract of Writer.Done: a row of its own with all that was put. -/
namespace Go.Proofs.YtcbpppdmkhpkkaaGreat
open Go.RowKit

theorem Frm.undrew {S : List Nat} {w w' : World} (h : Frm S w.drew w') : Frm S w w' := ⟨h.os, h.tape, h.output, h.size, h.block⟩

theorem done_nil (p : Nat) (w : World) (hp : Whole w p 120 #[.pointer none, .int .i64 0]) :
    Calls Tryz.prog 55 #[.pointer (some ⟨p, 0, none⟩)] w fun e w' => e = .returned (.slice none 0 0) ∧ w = w' := by
  have c0 := hp.cell 0
  simp at c0
  clear hp
  go_enter Tryz.func55, Tryz.ntmps55
  go_wp2
  go_ret
  exact ⟨rfl, rfl⟩

set_option maxRecDepth 100000 in
set_option maxHeartbeats 1000000 in
theorem done_on (B p r : Nat) (sa : Option Addr) (scap : Nat) (l : List Nat) (w : World) (h8 : ∀ c ∈ l, c < 256)
    (hp : Whole w p 120 #[.pointer (some ⟨r, 0, none⟩), .int .i64 (l.length : Nat)]) (hr : Whole w r 166 #[.slice sa l.length scap])
    (hown : w.ownsRow B 5 1 (.slice sa l.length scap) l.length (l.map u8v)) (hfit : l.length ≤ 140737488355328) :
    Calls Tryz.prog 55 #[.pointer (some ⟨p, 0, none⟩)] w fun e w' => Own w w' l e := by
  obtain ⟨hb, hnil⟩ := own_bytes hown h8
  have hcap : l.length ≤ scap := by
    rcases hown.2 with ⟨h, h0⟩ | ⟨g, cap, cur, hv, _, _, hnc, _⟩
    · omega
    · injection hv with _ _ h; omega
  have hcap63 : scap ≤ 9223372036854775807 := by
    rcases hown.2 with ⟨h, h0⟩ | ⟨g, cap, cur, hv, _, _, _, hm, _⟩
    · injection h with _ _ h; omega
    · injection hv with _ _ h; unfold maxLen at hm; omega
  have CL := Lib.hid (fun (w' : World) (hB : Bytes w' sa l) => clone_any sa l.length scap l w' hB rfl hnil hfit)
  obtain ⟨k, hk⟩ : ∃ k, k = l.length := ⟨_, rfl⟩
  rw [← hk] at hp hr hcap CL
  have c0 := hp.cell 0
  have c1 := hp.cell 1
  have cr := hr.cell 0
  simp at c0 c1 cr
  clear hp hr hown hnil hfit
  have HB := Lib.hid hb; clear hb
  have HK := Lib.hid hk; clear hk
  go_enter Tryz.func55, Tryz.ntmps55
  go_wp2
  go_still_tail 12, (by kernel_rfl)
  change wpList _ _ _ _ _ w.drew
  go_wp2_with fail
  refine (CL.out w.drew HB.out).mono ?_
  rintro e w' ⟨a', cap', rfl, ho, hf⟩
  have HO := Lib.hid ho; clear ho
  have HF := Lib.hid hf; clear hf
  clear HK
  go_wp2
  go_ret
  exact ⟨a', cap', rfl, HO.out, HF.out.undrew⟩

theorem done_any {w : World} {B p : Nat} {F : List Nat} {l : List Nat} (h : Wr w B p F l) (hfit : l.length ≤ 140737488355328) :
    Calls Tryz.prog 55 #[.pointer (some ⟨p, 0, none⟩)] w fun e w' => Own w w' l e := by
  obtain ⟨h8, hBp, ⟨rfl, rfl, hp⟩ | ⟨r, a, cap, hp, hr, hown, hBr, rfl⟩⟩ := h
  · exact (done_nil p w hp).mono fun e w' ⟨he, hw⟩ => ⟨none, 0, he, by subst hw; exact World.ownsRow_nil _ _ _ _, by subst hw; exact Frm.refl _ _⟩
  · exact done_on B p r a cap l w h8 hp hr hown hfit
end Go.Proofs.YtcbpppdmkhpkkaaGreat
/- Pieces of slices of bytes. They speak of no program. -/
namespace Go.Proofs.YtcbpppdmkhpkkaaGreat
open Go.RowKit

theorem Bytes.nil {w : World} (a : Option Addr) : Bytes w a [] := ⟨by simp, by simp, .inl rfl⟩
theorem Bytes.take {w : World} {a : Option Addr} {l : List Nat} (h : Bytes w a l) (k : Nat) : Bytes w a (l.take k) := by
  obtain ⟨h8, hm, hc⟩ := h
  refine ⟨fun c hc => h8 c (List.mem_of_mem_take hc), by have := List.length_take_le k l; simp; omega, ?_⟩
  rcases hc with h | ⟨b, off, ha, hc⟩
  · left; rw [h]; simp
  · refine .inr ⟨b, off, ha, fun i hi => ?_⟩
    rw [List.length_take] at hi
    have e : (l.take k).getD i 0 = l.getD i 0 := by simp [List.getD, show i < k by omega]
    rw [e]; exact hc i (by omega)
theorem Bytes.drop {w : World} {a : Option Addr} {l : List Nat} (h : Bytes w a l) (k : Nat) : Bytes w (a.map (fun x => x.add k)) (l.drop k) := by
  obtain ⟨h8, hm, hc⟩ := h
  refine ⟨fun c hc => h8 c (List.mem_of_mem_drop hc), by simp; omega, ?_⟩
  rcases hc with h | ⟨b, off, ha, hc⟩
  · left; rw [h]; simp
  · refine .inr ⟨b, off + k, by rw [ha]; simp [addr_add], fun i hi => ?_⟩
    rw [List.length_drop] at hi
    have e : (l.drop k).getD i 0 = l.getD (k + i) 0 := by simp [List.getD, List.getElem?_drop]
    rw [e, Nat.add_assoc]; exact hc (k + i) (by omega)
end Go.Proofs.YtcbpppdmkhpkkaaGreat
/- Reader: what a Reader reads as (Rdr), what a throw leaves (Thrown); contracts of reads, Left, throw, take. -/
namespace Go.Proofs.YtcbpppdmkhpkkaaGreat
open Go.RowKit

/-- The Reader at block rb, of the call at cb, has the bytes l left, which lie in block db. -/
def Rdr (w : World) (rb cb db : Nat) (l : List Nat) : Prop :=
  ∃ a cap, Whole w rb 186 #[.slice a l.length cap, .pointer (some ⟨cb, 0, none⟩)] ∧ Whole w cb 184 #[.bool false, .int .i64 0] ∧ Bytes w a l ∧
    l.length ≤ cap ∧ cap ≤ 9223372036854775807 ∧ (a = none → cap = 0) ∧ (∀ x, a = some x → x.block = db) ∧ db ≠ rb ∧ db ≠ cb

/-- What is thrown: the call itself, with its code. -/
def Thrown (w : World) (rb cb : Nat) (c : Int) (e : Ending) (w' : World) : Prop :=
  e = .panicked [{ v := .iface 182 (.pointer (some ⟨cb, 0, none⟩)), recovered := false }] ∧ Whole w' cb 184 #[.bool false, .int .i64 c] ∧ Frm [rb, cb] w w'

theorem Rdr.ne {w : World} {rb cb db : Nat} {l : List Nat} (h : Rdr w rb cb db l) : rb ≠ cb := by
  obtain ⟨a, cap, h1, h2, _⟩ := h
  exact h1.ne h2 (by decide)

theorem reads_any {w : World} {rb cb db : Nat} {l : List Nat} (h : Rdr w rb cb db l) :
    Calls Tryz.prog 148 #[.pointer (some ⟨rb, 0, none⟩)] w fun e w' => e = .returned (.bool true) ∧ w = w' := by
  obtain ⟨a, cap, h1, h2, _⟩ := h
  have c1 := h1.cell 1
  have c2 := h2.cell 0
  simp at c1 c2
  clear h1 h2
  go_enter Tryz.func148, Tryz.ntmps148
  go_wp2
  go_ret
  exact ⟨rfl, rfl⟩

theorem left_any {w : World} {rb cb db : Nat} {l : List Nat} (h : Rdr w rb cb db l) :
    Calls Tryz.prog 137 #[.pointer (some ⟨rb, 0, none⟩)] w fun e w' => e = .returned (.int .i64 (l.length : Nat)) ∧ w = w' := by
  have H := Lib.hid h
  obtain ⟨a, cap, h1, h2, _⟩ := h
  have c1 := h1.cell 0
  simp at c1
  clear h1 h2
  go_enter Tryz.func137, Tryz.ntmps137
  go_wp2_with (go_at_call 148; refine (reads_any H.out).mono ?_; rintro e w' ⟨rfl, rfl⟩)
  go_ret
  exact ⟨rfl, rfl⟩

theorem throw_any {w : World} {rb cb db : Nat} {l : List Nat} (c : Int) (h : Rdr w rb cb db l) :
    Calls Tryz.prog 149 #[.pointer (some ⟨rb, 0, none⟩), .int .i64 c] w (Thrown w rb cb c) := by
  have hne := h.ne
  obtain ⟨a, cap, h1, h2, _⟩ := h
  have c1 := h1.cell 1
  have c2 := h2.cell 1
  have f2 := h2.free 1
  have c3 := (h1.other (p := ⟨cb, 1, none⟩) hne (.int .i64 c)).cell 1
  simp at c1 c2 c3
  have HW := Lib.hid (h2.put 1 (.int .i64 c))
  clear h1 h2
  go_enter Tryz.func149, Tryz.ntmps149
  go_wp2
  exact ⟨rfl, rfl, HW.out, (Frm.refl _ _).setCell (.inl (by simp)) _⟩

/-- What is taken: a piece of the bytes. -/
def Taken (w : World) (rb cb db : Nat) (l : List Nat) (k : Nat) (e : Ending) (w' : World) : Prop :=
  ∃ a cap, e = .returned (.slice a k cap) ∧ Bytes w' a (l.take k) ∧ k ≤ cap ∧ cap ≤ 9223372036854775807 ∧ (a = none → cap = 0) ∧ (∀ x, a = some x → x.block = db) ∧ Rdr w' rb cb db (l.drop k) ∧ Frm [rb] w w'

theorem take_short {w : World} {rb cb db : Nat} {l : List Nat} (k : Nat) (h : Rdr w rb cb db l) (hk : l.length < k) (hk64 : k < 18446744073709551616) :
    Calls Tryz.prog 138 #[.pointer (some ⟨rb, 0, none⟩), .int .u64 k] w (Thrown w rb cb 4) := by
  have H := Lib.hid h
  obtain ⟨a, cap, h1, h2, h3, hlc, hcm, _⟩ := h
  have c0 := h1.cell 0
  have c1 := h1.cell 1
  have c2 := h2.cell 1
  simp at c0 c1 c2
  clear h1 h2 h3
  go_enter Tryz.func138, Tryz.ntmps138
  go_wp2_with (go_at_call 148; refine (reads_any H.out).mono ?_; rintro e w' ⟨rfl, rfl⟩)
  refine (throw_any 4 H.out).mono ?_
  rintro e w' ⟨rfl, h1, h2⟩
  exact ⟨rfl, rfl, h1, h2⟩

theorem take_end {w : World} {rb cb db : Nat} {l : List Nat} {k : Nat} {a a2 : Option Addr} {cap cap2 : Nat} (hne : rb ≠ cb)
    (h1 : Whole w rb 186 #[.slice a l.length cap, .pointer (some ⟨cb, 0, none⟩)]) (h2 : Whole w cb 184 #[.bool false, .int .i64 0]) (h3 : Bytes w a l)
    (hlc : l.length ≤ cap) (hcm : cap ≤ 9223372036854775807) (hnil : a = none → cap = 0) (hdb : ∀ x, a = some x → x.block = db) (d1 : db ≠ rb) (d2 : db ≠ cb) (hk : k ≤ l.length)
    (hb : Bytes w a2 (l.drop k)) (hl2 : l.length - k ≤ cap2) (hc2 : cap2 ≤ cap) (hn2 : a2 = none → cap2 = 0) (hdb2 : ∀ x, a2 = some x → x.block = db) :
    Taken w rb cb db l k (.returned (.slice a k cap)) (w.setCell ⟨rb, 0, none⟩ (.slice a2 (l.length - k) cap2)) := by
  have hf : Frm [rb] w (w.setCell ⟨rb, 0, none⟩ (.slice a2 (l.length - k) cap2)) := (Frm.refl _ _).setCell (.inl (by simp)) _
  refine ⟨a, cap, rfl, hf.bytes (h3.take k) (fun x hx => by rw [hdb x hx]; simpa using d1), by omega, hcm, hnil, hdb, ⟨a2, cap2, ?_, hf.whole h2 (by simpa using hne.symm), hf.bytes hb (fun x hx => by rw [hdb2 x hx]; simpa using d1), by simpa using hl2, by omega, hn2, hdb2, d1, d2⟩, hf⟩
  simpa using h1.put 0 (.slice a2 (l.length - k) cap2)

set_option maxHeartbeats 1000000 in
theorem take_ok {w : World} {rb cb db : Nat} {l : List Nat} (k : Nat) (h : Rdr w rb cb db l) (hk : k ≤ l.length) :
    Calls Tryz.prog 138 #[.pointer (some ⟨rb, 0, none⟩), .int .u64 k] w (Taken w rb cb db l k) := by
  have H := Lib.hid h
  obtain ⟨a, cap, h1, h2, h3, hlc, hcm, hnil, hdb, d1, d2⟩ := h
  have c0 := h1.cell 0
  have c1 := h1.cell 1
  have c2 := h2.cell 1
  have f0 := h1.free 0
  simp at c0 c1 c2
  have hll : l.length ≤ 9223372036854775807 := h3.2.1
  have END := Lib.hid (fun (a2 : Option Addr) (cap2 : Nat) => take_end (a2 := a2) (cap2 := cap2) H.out.ne h1 h2 h3 hlc hcm hnil hdb d1 d2 hk)
  have H3 := Lib.hid h3; clear h3
  have HNIL := Lib.hid hnil; clear hnil
  have HDB := Lib.hid hdb; clear hdb
  clear h1 h2 d1 d2
  go_enter Tryz.func138, Tryz.ntmps138
  go_wp2_with (go_at_call 148; refine (reads_any H.out).mono ?_; rintro e w' ⟨rfl, rfl⟩)
  · go_ret
    obtain rfl : cap = k := by assumption
    have e : l.drop cap = [] := List.drop_eq_nil_of_le (by omega)
    exact END.out a 0 (by rw [e]; exact Bytes.nil _) (by omega) (by omega) (fun _ => rfl) HDB.out
  · go_ret
    exact END.out _ _ (H3.out.drop k) (by omega) (by omega) (fun h => by have := HNIL.out (by simpa using h); omega) (fun x hx => by
      cases a with
      | none => cases hx
      | some y =>
        simp at hx
        subst hx
        have := HDB.out y rfl
        unfold Addr.add
        split <;> exact this)
end Go.Proofs.YtcbpppdmkhpkkaaGreat
/- Contract of pack.value: the number whose eight bytes they are. -/
namespace Go.Proofs.YtcbpppdmkhpkkaaGreat
open Go.RowKit

theorem join_u64 (x c : Nat) (hx : x < 72057594037927936) (hc : c < 256) : bits .or .u64 (IntKind.u64.wrap ((x : Int) * 256)) (c : Int) = ((x * 256 + c : Nat) : Int) := by
  have e : IntKind.u64.wrap ((x : Int) * 256) = ((x * 256 : Nat) : Int) := by
    simp [IntKind.wrap, IntKind.bits, IntKind.signed]; omega
  rw [e, u64_or_nat _ _ (by omega) (by omega), nat_join 8 _ _ (by omega) (by omega)]
theorem join_u64_0 (c : Nat) (hc : c < 256) : bits .or .u64 0 (c : Int) = (c : Int) := by
  have := u64_or_nat 0 c (by omega) (by omega)
  simpa using this

set_option maxHeartbeats 4000000 in
theorem value_any (c0 c1 c2 c3 c4 c5 c6 c7 : Nat) (w : World) (h0 : c0 < 256) (h1 : c1 < 256) (h2 : c2 < 256) (h3 : c3 < 256) (h4 : c4 < 256) (h5 : c5 < 256) (h6 : c6 < 256) (h7 : c7 < 256) :
    Calls Tryz.prog 139 #[.agg #[.int .u8 c0, .int .u8 c1, .int .u8 c2, .int .u8 c3, .int .u8 c4, .int .u8 c5, .int .u8 c6, .int .u8 c7]] w
      fun e w' => e = .returned (.int .u64 (val [c0, c1, c2, c3, c4, c5, c6, c7] : Nat)) ∧ Below w.heap.size w w' := by
  have i0 : ∀ w, (Instr.index 201 (.agg #[.int .u8 c0, .int .u8 c1, .int .u8 c2, .int .u8 c3, .int .u8 c4, .int .u8 c5, .int .u8 c6, .int .u8 c7]) (.int .i64 0)).run Tryz.prog w = .ok (.int .u8 c0) w := fun _ => by kernel_rfl
  have i1 : ∀ w, (Instr.index 201 (.agg #[.int .u8 c0, .int .u8 c1, .int .u8 c2, .int .u8 c3, .int .u8 c4, .int .u8 c5, .int .u8 c6, .int .u8 c7]) (.int .i64 1)).run Tryz.prog w = .ok (.int .u8 c1) w := fun _ => by kernel_rfl
  have i2 : ∀ w, (Instr.index 201 (.agg #[.int .u8 c0, .int .u8 c1, .int .u8 c2, .int .u8 c3, .int .u8 c4, .int .u8 c5, .int .u8 c6, .int .u8 c7]) (.int .i64 2)).run Tryz.prog w = .ok (.int .u8 c2) w := fun _ => by kernel_rfl
  have i3 : ∀ w, (Instr.index 201 (.agg #[.int .u8 c0, .int .u8 c1, .int .u8 c2, .int .u8 c3, .int .u8 c4, .int .u8 c5, .int .u8 c6, .int .u8 c7]) (.int .i64 3)).run Tryz.prog w = .ok (.int .u8 c3) w := fun _ => by kernel_rfl
  have i4 : ∀ w, (Instr.index 201 (.agg #[.int .u8 c0, .int .u8 c1, .int .u8 c2, .int .u8 c3, .int .u8 c4, .int .u8 c5, .int .u8 c6, .int .u8 c7]) (.int .i64 4)).run Tryz.prog w = .ok (.int .u8 c4) w := fun _ => by kernel_rfl
  have i5 : ∀ w, (Instr.index 201 (.agg #[.int .u8 c0, .int .u8 c1, .int .u8 c2, .int .u8 c3, .int .u8 c4, .int .u8 c5, .int .u8 c6, .int .u8 c7]) (.int .i64 5)).run Tryz.prog w = .ok (.int .u8 c5) w := fun _ => by kernel_rfl
  have i6 : ∀ w, (Instr.index 201 (.agg #[.int .u8 c0, .int .u8 c1, .int .u8 c2, .int .u8 c3, .int .u8 c4, .int .u8 c5, .int .u8 c6, .int .u8 c7]) (.int .i64 6)).run Tryz.prog w = .ok (.int .u8 c6) w := fun _ => by kernel_rfl
  have i7 : ∀ w, (Instr.index 201 (.agg #[.int .u8 c0, .int .u8 c1, .int .u8 c2, .int .u8 c3, .int .u8 c4, .int .u8 c5, .int .u8 c6, .int .u8 c7]) (.int .i64 7)).run Tryz.prog w = .ok (.int .u8 c7) w := fun _ => by kernel_rfl
  have f0 := join_u64_0 c0 h0
  obtain ⟨x0, e0⟩ : ∃ x, x = c0 := ⟨_, rfl⟩
  have b0 : x0 < 256 := by omega
  replace f0 : bits .or .u64 0 (c0 : Int) = (x0 : Int) := by rw [f0, e0]
  obtain ⟨x1, e1⟩ : ∃ x, x = x0 * 256 + c1 := ⟨_, rfl⟩
  have b1 : x1 < 65536 := by omega
  have f1 := join_u64 x0 c1 (by omega) h1
  rw [← e1] at f1
  obtain ⟨x2, e2⟩ : ∃ x, x = x1 * 256 + c2 := ⟨_, rfl⟩
  have b2 : x2 < 16777216 := by omega
  have f2 := join_u64 x1 c2 (by omega) h2
  rw [← e2] at f2
  obtain ⟨x3, e3⟩ : ∃ x, x = x2 * 256 + c3 := ⟨_, rfl⟩
  have b3 : x3 < 4294967296 := by omega
  have f3 := join_u64 x2 c3 (by omega) h3
  rw [← e3] at f3
  obtain ⟨x4, e4⟩ : ∃ x, x = x3 * 256 + c4 := ⟨_, rfl⟩
  have b4 : x4 < 1099511627776 := by omega
  have f4 := join_u64 x3 c4 (by omega) h4
  rw [← e4] at f4
  obtain ⟨x5, e5⟩ : ∃ x, x = x4 * 256 + c5 := ⟨_, rfl⟩
  have b5 : x5 < 281474976710656 := by omega
  have f5 := join_u64 x4 c5 (by omega) h5
  rw [← e5] at f5
  obtain ⟨x6, e6⟩ : ∃ x, x = x5 * 256 + c6 := ⟨_, rfl⟩
  have b6 : x6 < 72057594037927936 := by omega
  have f6 := join_u64 x5 c6 (by omega) h6
  rw [← e6] at f6
  obtain ⟨x7, e7⟩ : ∃ x, x = x6 * 256 + c7 := ⟨_, rfl⟩
  have b7 : x7 < 18446744073709551616 := by omega
  have f7 := join_u64 x6 c7 (by omega) h7
  rw [← e7] at f7
  have E : Hid (val [c0, c1, c2, c3, c4, c5, c6, c7] = x7) := by
    show val [c0, c1, c2, c3, c4, c5, c6, c7] = x7
    simp only [val, List.foldl]; omega
  clear b0 b1 b2 b3 b4 b5 b6 b7
  clear e7 e6 e5 e4 e3 e2 e1 e0
  go_enter Tryz.func139, Tryz.ntmps139
  go_wp2
  refine wp_loop_rounds 9 ?_
  iterate 9 (rw [rounds_succ]; go_wp2)
  go_ret
  exact ⟨ret_same (by rw [E.out]), (Below.refl _ _).alloc (Nat.le_refl _) _⟩
end Go.Proofs.YtcbpppdmkhpkkaaGreat
/- Contracts of Reader.number: the next bytes as a number, or what is thrown. -/
namespace Go.Proofs.YtcbpppdmkhpkkaaGreat
open Go.RowKit

theorem Rdr.keep {w w' : World} {rb cb db : Nat} {l : List Nat} {S : List Nat} (h : Rdr w rb cb db l) (hf : Frm S w w') (hr : rb ∉ S) (hc : cb ∉ S) (hd : db ∉ S) : Rdr w' rb cb db l := by
  obtain ⟨a, cap, h1, h2, h3, h4, h5, h6, h7, h8, h9⟩ := h
  exact ⟨a, cap, hf.whole h1 hr, hf.whole h2 hc, hf.bytes h3 (fun x hx => by rw [h7 x hx]; exact hd), h4, h5, h6, h7, h8, h9⟩
theorem Thrown.early {w0 w w' : World} {rb cb : Nat} {c : Int} {e : Ending} (h : Thrown w rb cb c e w') (hf : Frm [rb] w0 w) : Thrown w0 rb cb c e w' :=
  ⟨h.1, h.2.1, hf.trans h.2.2 (by simp) (fun x hx => .inl hx)⟩
theorem Thrown.early0 {w0 w w' : World} {rb cb : Nat} {c : Int} {e : Ending} (h : Thrown w rb cb c e w') (hf : Frm [] w0 w) : Thrown w0 rb cb c e w' :=
  ⟨h.1, h.2.1, hf.trans h.2.2 (by simp) (fun x hx => .inl hx)⟩
theorem Rdr.lt {w : World} {rb cb db : Nat} {l : List Nat} (h : Rdr w rb cb db l) : rb < w.heap.size ∧ cb < w.heap.size := by
  obtain ⟨a, cap, h1, h2, _⟩ := h
  exact ⟨h1.lt, h2.lt⟩

set_option maxRecDepth 100000 in
set_option maxHeartbeats 1000000 in
theorem rnumber_short {w : World} {rb cb db : Nat} {l : List Nat} (k : Nat) (h : Rdr w rb cb db l) (hk : k = 1 ∨ k = 2 ∨ k = 4 ∨ k = 8) (hl : l.length < k) :
    Calls Tryz.prog 109 #[.pointer (some ⟨rb, 0, none⟩), .int .i64 k] w (Thrown w rb cb 4) := by
  have H := Lib.hid h; clear h
  have z0 : IntKind.i64.wrap 0 = 0 := rfl
  have z4 : IntKind.i64.wrap 4 = 4 := rfl
  have z6 : IntKind.i64.wrap 6 = 6 := rfl
  have z7 : IntKind.i64.wrap 7 = 7 := rfl
  have hf : Frm [] w ((w.alloc (.cells #[.int .u8 0, .int .u8 0, .int .u8 0, .int .u8 0, .int .u8 0, .int .u8 0, .int .u8 0, .int .u8 0] 201)).drew) := ((Frm.refl _ _).alloc _).drew
  have HF := Lib.hid hf; clear hf
  rcases hk with rfl | rfl | rfl | rfl
  all_goals
    go_enter Tryz.func109, Tryz.ntmps109
    go_wp2
    refine wp_region_any (by kernel_rfl) ?_
    change wpAny _ _ _ _ _ _ _ (World.drew _)
    refine wpAny_take (i := 0) (v := ?_) rfl (by kernel_rfl) (by kernel_rfl) (by kernel_rfl) (fun _ _ _ h => h) (Or.inl ⟨by rfl, ?_⟩) ?_
    rotate_left 1
    · intro w; go_simp; try with_reducible rfl
    refine wpAny_take (i := 1) (v := ?_) rfl (by kernel_rfl) (by kernel_rfl) (by kernel_rfl) (fun _ _ _ h => h) (Or.inl ⟨by rfl, ?_⟩) ?_
    rotate_left 1
    · intro w; go_simp; try with_reducible rfl
    refine wpAny_take (i := 2) (v := ?_) rfl (by kernel_rfl) (by kernel_rfl) (by kernel_rfl) (fun _ _ _ h => h) (Or.inl ⟨by rfl, ?_⟩) ?_
    rotate_left 1
    · intro w; go_simp; try with_reducible rfl
    refine wpAny_take (i := 3) (v := ?_) rfl (by kernel_rfl) (by kernel_rfl) (by kernel_rfl) (fun _ _ _ h => h) (Or.inl ⟨by rfl, ?_⟩) ?_
    rotate_left 1
    · intro w; go_simp; try with_reducible rfl
    refine wpAny_take (i := 4) (v := ?_) rfl (by kernel_rfl) (by kernel_rfl) (by kernel_rfl) (fun _ _ _ h => h) (Or.inl ⟨by rfl, ?_⟩) ?_
    rotate_left 1
    · intro w; go_simp; try with_reducible rfl
    refine wpAny_take (i := 5) (v := ?_) rfl (by kernel_rfl) (by kernel_rfl) (by kernel_rfl) (fun _ _ _ h => h) (Or.inl ⟨by rfl, ?_⟩) ?_
    rotate_left 1
    · intro w; go_simp; try with_reducible rfl
    refine wpAny_ready (rs := [6]) (by kernel_rfl) (by simp) ?_
    refine AllReady.cons rfl (fun K hK => ?_) AllReady.nil
    go_simp
    refine (take_short _ (H.out.keep HF.out (by simp) (by simp) (by simp)) hl (by omega)).mono ?_
    rintro e w' ⟨rfl, h1, h2⟩
    exact ⟨rfl, Thrown.early0 ⟨rfl, h1, h2⟩ HF.out⟩

/-- What a call that computes hands back, and what is left then. -/
def PkGot (w : World) (rb cb db : Nat) (l : List Nat) (k : Nat) (v : Value) (e : Ending) (w' : World) : Prop :=
  e = .returned v ∧ Rdr w' rb cb db (l.drop k) ∧ Frm [rb] w w'

/-- Eight zeros with k bytes laid over their end. -/
theorem splice_eight (k : Nat) (l : List Nat) (hk : k ≤ 8) (hl : l.length = k) : splice [u8v 0, u8v 0, u8v 0, u8v 0, u8v 0, u8v 0, u8v 0, u8v 0] (8 - k) (l.map u8v) = (List.replicate (8 - k) 0 ++ l).map u8v := by
  have e : [u8v 0, u8v 0, u8v 0, u8v 0, u8v 0, u8v 0, u8v 0, u8v 0] = List.replicate 8 (u8v 0) := rfl
  rw [e]
  unfold splice
  rw [List.take_replicate, List.drop_replicate, List.map_append, List.map_replicate, List.length_map, hl, show min (8 - k) 8 = 8 - k by omega, show 8 - (8 - k + k) = 0 by omega]
  simp
theorem eight_named (m : List Nat) (h : m.length = 8) : ∃ c0 c1 c2 c3 c4 c5 c6 c7 : Nat, m = [c0, c1, c2, c3, c4, c5, c6, c7] := by
  match m, h with
  | [c0, c1, c2, c3, c4, c5, c6, c7], _ => exact ⟨_, _, _, _, _, _, _, _, rfl⟩

theorem copy_side {w1 : World} {ta : Option Addr} {m : List Nat} (h : Bytes w1 ta m) (hpos : 0 < (m.map u8v).length) : ∃ ad, ta = some ad ∧ ∀ j v, (m.map u8v)[j]? = some v → w1.cell? (ad.add j) = some v := by
  rcases h.2.2 with h0 | ⟨b, off, ha, hc⟩
  · subst h0; simp at hpos
  · exact ⟨_, ha, Bytes.news hc⟩
theorem Frm.above {w w' : World} {B : Nat} (h : Below B w w') : Frm (List.range' B (w.heap.size - B)) w w' :=
  ⟨h.os, h.tape, h.output, h.size, fun k hk hn => h.block k (by
    rcases Nat.lt_or_ge k B with h1 | h1
    · exact h1
    · exact absurd (List.mem_range'_1.2 ⟨h1, by omega⟩) hn)⟩
/-- Behind the copy and the reckoning: what is left. -/
theorem got_end {w w0 w1 w2 w3 : World} {rb cb db : Nat} {l : List Nat} {k : Nat} {v : Value} (hlt : rb < w.heap.size ∧ cb < w.heap.size) (hdb : db < w.heap.size)
    (h0 : Frm [] w w0) (hr : Rdr w1 rb cb db (l.drop k)) (h1 : Frm [rb] w0 w1) (h2 : Below w.heap.size w1 w2) (h3 : Below w2.heap.size w2 w3) : PkGot w rb cb db l k v (.returned v) w3 := by
  have h2' := Frm.above h2
  have nm : ∀ x, x < w.heap.size → x ∉ List.range' w.heap.size (w1.heap.size - w.heap.size) := fun x hx hm => by
    have := (List.mem_range'_1.1 hm).1; omega
  refine ⟨rfl, (hr.keep h2' (nm _ hlt.1) (nm _ hlt.2) (nm _ hdb)).keep (Frm.ofBelow h3) (by simp) (by simp) (by simp), ?_⟩
  have a := (h0.trans h1 (U := [rb]) (by simp) (fun x hx => .inl hx))
  have b := a.trans h2' (U := [rb]) (fun x hx => hx) (fun x hx => .inr (List.mem_range'_1.1 hx).1)
  exact b.trans (Frm.ofBelow h3) (fun x hx => hx) (by simp)

set_option maxRecDepth 100000 in
set_option maxHeartbeats 2000000 in
theorem rnumber_ok1 {w : World} {rb cb db : Nat} {l : List Nat} (h : Rdr w rb cb db l) (hl : 1 ≤ l.length) (hdb : db < w.heap.size) :
    Calls Tryz.prog 109 #[.pointer (some ⟨rb, 0, none⟩), .int .i64 1] w (PkGot w rb cb db l 1 (.int .u64 (val (l.take 1) : Nat))) := by
  have hlt := h.lt
  have hm8 : ∀ c ∈ List.replicate (8 - 1) 0 ++ l.take 1, c < 256 := by
    obtain ⟨a, cap, _, _, h3, _⟩ := h
    intro c hc
    rcases List.mem_append.1 hc with h | h
    · have := (List.mem_replicate.1 h).2; omega
    · exact h3.1 c (List.mem_of_mem_take h)
  obtain ⟨c0, c1, c2, c3, c4, c5, c6, c7, hc⟩ := eight_named (List.replicate (8 - 1) 0 ++ l.take 1) (by simp; omega)
  have hv : val [c0, c1, c2, c3, c4, c5, c6, c7] = val (l.take 1) := by rw [← hc, val_zeros]
  have hsp := splice_eight 1 (l.take 1) (by omega) (by simp; omega)
  rw [hc] at hm8 hsp
  obtain ⟨cs, hcs⟩ : ∃ cs, cs = (l.take 1).map u8v := ⟨_, rfl⟩
  have hcl : cs.length = 1 := by rw [hcs]; simp; omega
  have hc1 : ∀ v ∈ cs, v.oneCell' = true := by rw [hcs]; exact u8v_one _
  rw [← hcs] at hsp
  have HSP := Lib.hid hsp; clear hsp
  have HV := Lib.hid hv; clear hv
  have HC8 := Lib.hid hm8; clear hm8
  have HCS := Lib.hid hcs; clear hcs
  have HCL := Lib.hid hcl; clear hcl
  have HC1 := Lib.hid hc1; clear hc1
  clear hc
  have H := Lib.hid h; clear h
  have z7 : IntKind.i64.wrap 7 = 7 := rfl
  have hf : Frm [] w ((w.alloc (.cells #[.int .u8 0, .int .u8 0, .int .u8 0, .int .u8 0, .int .u8 0, .int .u8 0, .int .u8 0, .int .u8 0] 201)).drew) := ((Frm.refl _ _).alloc _).drew
  have HW := Lib.hid (Whole.made w 201 #[.int .u8 0, .int .u8 0, .int .u8 0, .int .u8 0, .int .u8 0, .int .u8 0, .int .u8 0, .int .u8 0])
  have HF := Lib.hid hf; clear hf
  have HLT := Lib.hid hlt; clear hlt
  have HG : Hid (∀ w1, Frm [rb] (w.alloc (.cells #[.int .u8 0, .int .u8 0, .int .u8 0, .int .u8 0, .int .u8 0, .int .u8 0, .int .u8 0, .int .u8 0] 201)).drew w1 → w1.heap[w.heap.size]? = some (.cells [u8v 0, u8v 0, u8v 0, u8v 0, u8v 0, u8v 0, u8v 0, u8v 0].toArray 201 (0, 0))) := by
    intro w1 h1
    exact h1.whole (show Whole _ _ _ _ from HW.out) (by have := HLT.out.1; simp; omega)
  go_enter Tryz.func109, Tryz.ntmps109
  go_wp2
  go_region_law (first | (refine step_copy_splice rfl (.tmp 8) (.tmp 12) 36 36 rfl 5 Tryz.underlying36 (by kernel_rfl) _ ta 1 _ 1 _ rfl rfl w.heap.size (8 - 1) [u8v 0, u8v 0, u8v 0, u8v 0, u8v 0, u8v 0, u8v 0, u8v 0] 201 (HG.out _ HT.out.2.2.2.2.2.2) cs HCL.out (fun hp => ⟨rfl, by rw [HCS.out] at hp ⊢; exact copy_side HT.out.1 hp⟩) (by rw [HCL.out]; decide) HC1.out w.heap.size w1 (Below.refl _ _) (Nat.le_refl _) ?_; intro w2 hw2 hb2; have HB2 := Lib.hid hb2; clear hb2) | (go_simp; go_at_call 138; refine (take_ok _ (H.out.keep HF.out (by simp) (by simp) (by simp)) hl).mono ?_; rintro e w1 ⟨ta, tcap, rfl, ht⟩; have HT := Lib.hid ht; clear ht))
  have hrow : w2.heap[w.heap.size]? = some (.cells #[.int .u8 c0, .int .u8 c1, .int .u8 c2, .int .u8 c3, .int .u8 c4, .int .u8 c5, .int .u8 c6, .int .u8 c7] 201 (0, 0)) := by
    have := hw2.out
    rw [HSP.out] at this
    exact this
  have HROW := Lib.hid hrow; clear hrow
  clear hw2
  go_wp2_with (refine wpList_load_row rfl 201 (.tmp 5) rfl w.heap.size rfl 201 _ (0, 0) _ HROW.out Tryz.underlying201 rfl (by kernel_rfl) ?_)
  refine (value_any c0 c1 c2 c3 c4 c5 c6 c7 _ (HC8.out _ (by simp)) (HC8.out _ (by simp)) (HC8.out _ (by simp)) (HC8.out _ (by simp)) (HC8.out _ (by simp)) (HC8.out _ (by simp)) (HC8.out _ (by simp)) (HC8.out _ (by simp))).mono ?_
  rintro e w3 ⟨rfl, hb3⟩
  have HB3 := Lib.hid hb3; clear hb3
  go_wp2
  go_ret
  have := HV.out
  rw [← this]
  exact got_end HLT.out hdb HF.out HT.out.2.2.2.2.2.1 HT.out.2.2.2.2.2.2 HB2.out HB3.out

set_option maxRecDepth 100000 in
set_option maxHeartbeats 2000000 in
theorem rnumber_ok2 {w : World} {rb cb db : Nat} {l : List Nat} (h : Rdr w rb cb db l) (hl : 2 ≤ l.length) (hdb : db < w.heap.size) :
    Calls Tryz.prog 109 #[.pointer (some ⟨rb, 0, none⟩), .int .i64 2] w (PkGot w rb cb db l 2 (.int .u64 (val (l.take 2) : Nat))) := by
  have hlt := h.lt
  have hm8 : ∀ c ∈ List.replicate (8 - 2) 0 ++ l.take 2, c < 256 := by
    obtain ⟨a, cap, _, _, h3, _⟩ := h
    intro c hc
    rcases List.mem_append.1 hc with h | h
    · have := (List.mem_replicate.1 h).2; omega
    · exact h3.1 c (List.mem_of_mem_take h)
  obtain ⟨c0, c1, c2, c3, c4, c5, c6, c7, hc⟩ := eight_named (List.replicate (8 - 2) 0 ++ l.take 2) (by simp; omega)
  have hv : val [c0, c1, c2, c3, c4, c5, c6, c7] = val (l.take 2) := by rw [← hc, val_zeros]
  have hsp := splice_eight 2 (l.take 2) (by omega) (by simp; omega)
  rw [hc] at hm8 hsp
  obtain ⟨cs, hcs⟩ : ∃ cs, cs = (l.take 2).map u8v := ⟨_, rfl⟩
  have hcl : cs.length = 2 := by rw [hcs]; simp; omega
  have hc1 : ∀ v ∈ cs, v.oneCell' = true := by rw [hcs]; exact u8v_one _
  rw [← hcs] at hsp
  have HSP := Lib.hid hsp; clear hsp
  have HV := Lib.hid hv; clear hv
  have HC8 := Lib.hid hm8; clear hm8
  have HCS := Lib.hid hcs; clear hcs
  have HCL := Lib.hid hcl; clear hcl
  have HC1 := Lib.hid hc1; clear hc1
  clear hc
  have H := Lib.hid h; clear h
  have z7 : IntKind.i64.wrap 6 = 6 := rfl
  have hf : Frm [] w ((w.alloc (.cells #[.int .u8 0, .int .u8 0, .int .u8 0, .int .u8 0, .int .u8 0, .int .u8 0, .int .u8 0, .int .u8 0] 201)).drew) := ((Frm.refl _ _).alloc _).drew
  have HW := Lib.hid (Whole.made w 201 #[.int .u8 0, .int .u8 0, .int .u8 0, .int .u8 0, .int .u8 0, .int .u8 0, .int .u8 0, .int .u8 0])
  have HF := Lib.hid hf; clear hf
  have HLT := Lib.hid hlt; clear hlt
  have HG : Hid (∀ w1, Frm [rb] (w.alloc (.cells #[.int .u8 0, .int .u8 0, .int .u8 0, .int .u8 0, .int .u8 0, .int .u8 0, .int .u8 0, .int .u8 0] 201)).drew w1 → w1.heap[w.heap.size]? = some (.cells [u8v 0, u8v 0, u8v 0, u8v 0, u8v 0, u8v 0, u8v 0, u8v 0].toArray 201 (0, 0))) := by
    intro w1 h1
    exact h1.whole (show Whole _ _ _ _ from HW.out) (by have := HLT.out.1; simp; omega)
  go_enter Tryz.func109, Tryz.ntmps109
  go_wp2
  go_region_law (first | (refine step_copy_splice rfl (.tmp 8) (.tmp 12) 36 36 rfl 5 Tryz.underlying36 (by kernel_rfl) _ ta 2 _ 2 _ rfl rfl w.heap.size (8 - 2) [u8v 0, u8v 0, u8v 0, u8v 0, u8v 0, u8v 0, u8v 0, u8v 0] 201 (HG.out _ HT.out.2.2.2.2.2.2) cs HCL.out (fun hp => ⟨rfl, by rw [HCS.out] at hp ⊢; exact copy_side HT.out.1 hp⟩) (by rw [HCL.out]; decide) HC1.out w.heap.size w1 (Below.refl _ _) (Nat.le_refl _) ?_; intro w2 hw2 hb2; have HB2 := Lib.hid hb2; clear hb2) | (go_simp; go_at_call 138; refine (take_ok _ (H.out.keep HF.out (by simp) (by simp) (by simp)) hl).mono ?_; rintro e w1 ⟨ta, tcap, rfl, ht⟩; have HT := Lib.hid ht; clear ht))
  have hrow : w2.heap[w.heap.size]? = some (.cells #[.int .u8 c0, .int .u8 c1, .int .u8 c2, .int .u8 c3, .int .u8 c4, .int .u8 c5, .int .u8 c6, .int .u8 c7] 201 (0, 0)) := by
    have := hw2.out
    rw [HSP.out] at this
    exact this
  have HROW := Lib.hid hrow; clear hrow
  clear hw2
  go_wp2_with (refine wpList_load_row rfl 201 (.tmp 5) rfl w.heap.size rfl 201 _ (0, 0) _ HROW.out Tryz.underlying201 rfl (by kernel_rfl) ?_)
  refine (value_any c0 c1 c2 c3 c4 c5 c6 c7 _ (HC8.out _ (by simp)) (HC8.out _ (by simp)) (HC8.out _ (by simp)) (HC8.out _ (by simp)) (HC8.out _ (by simp)) (HC8.out _ (by simp)) (HC8.out _ (by simp)) (HC8.out _ (by simp))).mono ?_
  rintro e w3 ⟨rfl, hb3⟩
  have HB3 := Lib.hid hb3; clear hb3
  go_wp2
  go_ret
  have := HV.out
  rw [← this]
  exact got_end HLT.out hdb HF.out HT.out.2.2.2.2.2.1 HT.out.2.2.2.2.2.2 HB2.out HB3.out

set_option maxRecDepth 100000 in
set_option maxHeartbeats 2000000 in
theorem rnumber_ok4 {w : World} {rb cb db : Nat} {l : List Nat} (h : Rdr w rb cb db l) (hl : 4 ≤ l.length) (hdb : db < w.heap.size) :
    Calls Tryz.prog 109 #[.pointer (some ⟨rb, 0, none⟩), .int .i64 4] w (PkGot w rb cb db l 4 (.int .u64 (val (l.take 4) : Nat))) := by
  have hlt := h.lt
  have hm8 : ∀ c ∈ List.replicate (8 - 4) 0 ++ l.take 4, c < 256 := by
    obtain ⟨a, cap, _, _, h3, _⟩ := h
    intro c hc
    rcases List.mem_append.1 hc with h | h
    · have := (List.mem_replicate.1 h).2; omega
    · exact h3.1 c (List.mem_of_mem_take h)
  obtain ⟨c0, c1, c2, c3, c4, c5, c6, c7, hc⟩ := eight_named (List.replicate (8 - 4) 0 ++ l.take 4) (by simp; omega)
  have hv : val [c0, c1, c2, c3, c4, c5, c6, c7] = val (l.take 4) := by rw [← hc, val_zeros]
  have hsp := splice_eight 4 (l.take 4) (by omega) (by simp; omega)
  rw [hc] at hm8 hsp
  obtain ⟨cs, hcs⟩ : ∃ cs, cs = (l.take 4).map u8v := ⟨_, rfl⟩
  have hcl : cs.length = 4 := by rw [hcs]; simp; omega
  have hc1 : ∀ v ∈ cs, v.oneCell' = true := by rw [hcs]; exact u8v_one _
  rw [← hcs] at hsp
  have HSP := Lib.hid hsp; clear hsp
  have HV := Lib.hid hv; clear hv
  have HC8 := Lib.hid hm8; clear hm8
  have HCS := Lib.hid hcs; clear hcs
  have HCL := Lib.hid hcl; clear hcl
  have HC1 := Lib.hid hc1; clear hc1
  clear hc
  have H := Lib.hid h; clear h
  have z7 : IntKind.i64.wrap 4 = 4 := rfl
  have hf : Frm [] w ((w.alloc (.cells #[.int .u8 0, .int .u8 0, .int .u8 0, .int .u8 0, .int .u8 0, .int .u8 0, .int .u8 0, .int .u8 0] 201)).drew) := ((Frm.refl _ _).alloc _).drew
  have HW := Lib.hid (Whole.made w 201 #[.int .u8 0, .int .u8 0, .int .u8 0, .int .u8 0, .int .u8 0, .int .u8 0, .int .u8 0, .int .u8 0])
  have HF := Lib.hid hf; clear hf
  have HLT := Lib.hid hlt; clear hlt
  have HG : Hid (∀ w1, Frm [rb] (w.alloc (.cells #[.int .u8 0, .int .u8 0, .int .u8 0, .int .u8 0, .int .u8 0, .int .u8 0, .int .u8 0, .int .u8 0] 201)).drew w1 → w1.heap[w.heap.size]? = some (.cells [u8v 0, u8v 0, u8v 0, u8v 0, u8v 0, u8v 0, u8v 0, u8v 0].toArray 201 (0, 0))) := by
    intro w1 h1
    exact h1.whole (show Whole _ _ _ _ from HW.out) (by have := HLT.out.1; simp; omega)
  go_enter Tryz.func109, Tryz.ntmps109
  go_wp2
  go_region_law (first | (refine step_copy_splice rfl (.tmp 8) (.tmp 12) 36 36 rfl 5 Tryz.underlying36 (by kernel_rfl) _ ta 4 _ 4 _ rfl rfl w.heap.size (8 - 4) [u8v 0, u8v 0, u8v 0, u8v 0, u8v 0, u8v 0, u8v 0, u8v 0] 201 (HG.out _ HT.out.2.2.2.2.2.2) cs HCL.out (fun hp => ⟨rfl, by rw [HCS.out] at hp ⊢; exact copy_side HT.out.1 hp⟩) (by rw [HCL.out]; decide) HC1.out w.heap.size w1 (Below.refl _ _) (Nat.le_refl _) ?_; intro w2 hw2 hb2; have HB2 := Lib.hid hb2; clear hb2) | (go_simp; go_at_call 138; refine (take_ok _ (H.out.keep HF.out (by simp) (by simp) (by simp)) hl).mono ?_; rintro e w1 ⟨ta, tcap, rfl, ht⟩; have HT := Lib.hid ht; clear ht))
  have hrow : w2.heap[w.heap.size]? = some (.cells #[.int .u8 c0, .int .u8 c1, .int .u8 c2, .int .u8 c3, .int .u8 c4, .int .u8 c5, .int .u8 c6, .int .u8 c7] 201 (0, 0)) := by
    have := hw2.out
    rw [HSP.out] at this
    exact this
  have HROW := Lib.hid hrow; clear hrow
  clear hw2
  go_wp2_with (refine wpList_load_row rfl 201 (.tmp 5) rfl w.heap.size rfl 201 _ (0, 0) _ HROW.out Tryz.underlying201 rfl (by kernel_rfl) ?_)
  refine (value_any c0 c1 c2 c3 c4 c5 c6 c7 _ (HC8.out _ (by simp)) (HC8.out _ (by simp)) (HC8.out _ (by simp)) (HC8.out _ (by simp)) (HC8.out _ (by simp)) (HC8.out _ (by simp)) (HC8.out _ (by simp)) (HC8.out _ (by simp))).mono ?_
  rintro e w3 ⟨rfl, hb3⟩
  have HB3 := Lib.hid hb3; clear hb3
  go_wp2
  go_ret
  have := HV.out
  rw [← this]
  exact got_end HLT.out hdb HF.out HT.out.2.2.2.2.2.1 HT.out.2.2.2.2.2.2 HB2.out HB3.out

set_option maxRecDepth 100000 in
set_option maxHeartbeats 2000000 in
theorem rnumber_ok8 {w : World} {rb cb db : Nat} {l : List Nat} (h : Rdr w rb cb db l) (hl : 8 ≤ l.length) (hdb : db < w.heap.size) :
    Calls Tryz.prog 109 #[.pointer (some ⟨rb, 0, none⟩), .int .i64 8] w (PkGot w rb cb db l 8 (.int .u64 (val (l.take 8) : Nat))) := by
  have hlt := h.lt
  have hm8 : ∀ c ∈ List.replicate (8 - 8) 0 ++ l.take 8, c < 256 := by
    obtain ⟨a, cap, _, _, h3, _⟩ := h
    intro c hc
    rcases List.mem_append.1 hc with h | h
    · have := (List.mem_replicate.1 h).2; omega
    · exact h3.1 c (List.mem_of_mem_take h)
  obtain ⟨c0, c1, c2, c3, c4, c5, c6, c7, hc⟩ := eight_named (List.replicate (8 - 8) 0 ++ l.take 8) (by simp; omega)
  have hv : val [c0, c1, c2, c3, c4, c5, c6, c7] = val (l.take 8) := by rw [← hc, val_zeros]
  have hsp := splice_eight 8 (l.take 8) (by omega) (by simp; omega)
  rw [hc] at hm8 hsp
  obtain ⟨cs, hcs⟩ : ∃ cs, cs = (l.take 8).map u8v := ⟨_, rfl⟩
  have hcl : cs.length = 8 := by rw [hcs]; simp; omega
  have hc1 : ∀ v ∈ cs, v.oneCell' = true := by rw [hcs]; exact u8v_one _
  rw [← hcs] at hsp
  have HSP := Lib.hid hsp; clear hsp
  have HV := Lib.hid hv; clear hv
  have HC8 := Lib.hid hm8; clear hm8
  have HCS := Lib.hid hcs; clear hcs
  have HCL := Lib.hid hcl; clear hcl
  have HC1 := Lib.hid hc1; clear hc1
  clear hc
  have H := Lib.hid h; clear h
  have z7 : IntKind.i64.wrap 0 = 0 := rfl
  have hf : Frm [] w ((w.alloc (.cells #[.int .u8 0, .int .u8 0, .int .u8 0, .int .u8 0, .int .u8 0, .int .u8 0, .int .u8 0, .int .u8 0] 201)).drew) := ((Frm.refl _ _).alloc _).drew
  have HW := Lib.hid (Whole.made w 201 #[.int .u8 0, .int .u8 0, .int .u8 0, .int .u8 0, .int .u8 0, .int .u8 0, .int .u8 0, .int .u8 0])
  have HF := Lib.hid hf; clear hf
  have HLT := Lib.hid hlt; clear hlt
  have HG : Hid (∀ w1, Frm [rb] (w.alloc (.cells #[.int .u8 0, .int .u8 0, .int .u8 0, .int .u8 0, .int .u8 0, .int .u8 0, .int .u8 0, .int .u8 0] 201)).drew w1 → w1.heap[w.heap.size]? = some (.cells [u8v 0, u8v 0, u8v 0, u8v 0, u8v 0, u8v 0, u8v 0, u8v 0].toArray 201 (0, 0))) := by
    intro w1 h1
    exact h1.whole (show Whole _ _ _ _ from HW.out) (by have := HLT.out.1; simp; omega)
  go_enter Tryz.func109, Tryz.ntmps109
  go_wp2
  go_region_law (first | (refine step_copy_splice rfl (.tmp 8) (.tmp 12) 36 36 rfl 5 Tryz.underlying36 (by kernel_rfl) _ ta 8 _ 8 _ rfl rfl w.heap.size (8 - 8) [u8v 0, u8v 0, u8v 0, u8v 0, u8v 0, u8v 0, u8v 0, u8v 0] 201 (HG.out _ HT.out.2.2.2.2.2.2) cs HCL.out (fun hp => ⟨rfl, by rw [HCS.out] at hp ⊢; exact copy_side HT.out.1 hp⟩) (by rw [HCL.out]; decide) HC1.out w.heap.size w1 (Below.refl _ _) (Nat.le_refl _) ?_; intro w2 hw2 hb2; have HB2 := Lib.hid hb2; clear hb2) | (go_simp; go_at_call 138; refine (take_ok _ (H.out.keep HF.out (by simp) (by simp) (by simp)) hl).mono ?_; rintro e w1 ⟨ta, tcap, rfl, ht⟩; have HT := Lib.hid ht; clear ht))
  have hrow : w2.heap[w.heap.size]? = some (.cells #[.int .u8 c0, .int .u8 c1, .int .u8 c2, .int .u8 c3, .int .u8 c4, .int .u8 c5, .int .u8 c6, .int .u8 c7] 201 (0, 0)) := by
    have := hw2.out
    rw [HSP.out] at this
    exact this
  have HROW := Lib.hid hrow; clear hrow
  clear hw2
  go_wp2_with (refine wpList_load_row rfl 201 (.tmp 5) rfl w.heap.size rfl 201 _ (0, 0) _ HROW.out Tryz.underlying201 rfl (by kernel_rfl) ?_)
  refine (value_any c0 c1 c2 c3 c4 c5 c6 c7 _ (HC8.out _ (by simp)) (HC8.out _ (by simp)) (HC8.out _ (by simp)) (HC8.out _ (by simp)) (HC8.out _ (by simp)) (HC8.out _ (by simp)) (HC8.out _ (by simp)) (HC8.out _ (by simp))).mono ?_
  rintro e w3 ⟨rfl, hb3⟩
  have HB3 := Lib.hid hb3; clear hb3
  go_wp2
  go_ret
  have := HV.out
  rw [← this]
  exact got_end HLT.out hdb HF.out HT.out.2.2.2.2.2.1 HT.out.2.2.2.2.2.2 HB2.out HB3.out

theorem rnumber_ok {w : World} {rb cb db : Nat} {l : List Nat} (k : Nat) (h : Rdr w rb cb db l) (hk : k = 1 ∨ k = 2 ∨ k = 4 ∨ k = 8) (hl : k ≤ l.length) (hdb : db < w.heap.size) :
    Calls Tryz.prog 109 #[.pointer (some ⟨rb, 0, none⟩), .int .i64 k] w (PkGot w rb cb db l k (.int .u64 (val (l.take k) : Nat))) := by
  rcases hk with rfl | rfl | rfl | rfl
  · exact rnumber_ok1 h hl hdb
  · exact rnumber_ok2 h hl hdb
  · exact rnumber_ok4 h hl hdb
  · exact rnumber_ok8 h hl hdb
end Go.Proofs.YtcbpppdmkhpkkaaGreat
/- Contracts of Reader.U8, U16, U32, U64, counted, Bytes. -/
namespace Go.Proofs.YtcbpppdmkhpkkaaGreat
open Go.RowKit

theorem Rdr.h8 {w : World} {rb cb db : Nat} {l : List Nat} (h : Rdr w rb cb db l) : ∀ c ∈ l, c < 256 := by
  obtain ⟨a, cap, _, _, h3, _⟩ := h
  exact h3.1
theorem Rdr.fits {w : World} {rb cb db : Nat} {l : List Nat} (h : Rdr w rb cb db l) : l.length ≤ 9223372036854775807 := by
  obtain ⟨a, cap, _, _, h3, _⟩ := h
  exact h3.2.1
theorem val_take_lt {w : World} {rb cb db : Nat} {l : List Nat} (h : Rdr w rb cb db l) (k : Nat) (hk : k ≤ l.length) : val (l.take k) < 256 ^ k := by
  have := val_lt (l.take k) (fun c hc => h.h8 c (List.mem_of_mem_take hc))
  rwa [List.length_take, Nat.min_eq_left hk] at this

theorem ru32_ok {w : World} {rb cb db : Nat} {l : List Nat} (h : Rdr w rb cb db l) (hl : 4 ≤ l.length) (hdb : db < w.heap.size) :
    Calls Tryz.prog 151 #[.pointer (some ⟨rb, 0, none⟩)] w (PkGot w rb cb db l 4 (.int .u32 (val (l.take 4) : Nat))) := by
  have hv : val (l.take 4) < 4294967296 := val_take_lt h 4 hl
  have HN := Lib.hid (rnumber_ok 4 h (by omega) hl hdb)
  clear h
  obtain ⟨v, hve⟩ : ∃ v, v = val (l.take 4) := ⟨_, rfl⟩
  rw [← hve] at hv HN ⊢
  have HVE := Lib.hid hve; clear hve
  go_enter Tryz.func151, Tryz.ntmps151
  go_wp2_with fail
  refine HN.out.mono ?_
  rintro e w' ⟨rfl, hr, hf⟩
  have HR := Lib.hid hr; clear hr
  go_wp2
  go_ret
  exact ⟨rfl, HR.out, hf⟩
theorem ru32_short {w : World} {rb cb db : Nat} {l : List Nat} (h : Rdr w rb cb db l) (hl : l.length < 4) :
    Calls Tryz.prog 151 #[.pointer (some ⟨rb, 0, none⟩)] w (Thrown w rb cb 4) := by
  have HN := Lib.hid (rnumber_short 4 h (by omega) hl)
  clear h
  go_enter Tryz.func151, Tryz.ntmps151
  go_wp2_with fail
  refine HN.out.mono ?_
  rintro e w' ⟨rfl, h1, h2⟩
  exact ⟨rfl, rfl, h1, h2⟩

theorem ru64_ok {w : World} {rb cb db : Nat} {l : List Nat} (h : Rdr w rb cb db l) (hl : 8 ≤ l.length) (hdb : db < w.heap.size) :
    Calls Tryz.prog 74 #[.pointer (some ⟨rb, 0, none⟩)] w (PkGot w rb cb db l 8 (.int .u64 (val (l.take 8) : Nat))) := by
  have hv : val (l.take 8) < 18446744073709551616 := val_take_lt h 8 hl
  have HN := Lib.hid (rnumber_ok 8 h (by omega) hl hdb)
  clear h
  obtain ⟨v, hve⟩ : ∃ v, v = val (l.take 8) := ⟨_, rfl⟩
  rw [← hve] at hv HN ⊢
  have HVE := Lib.hid hve; clear hve
  go_enter Tryz.func74, Tryz.ntmps74
  go_wp2_with fail
  refine HN.out.mono ?_
  rintro e w' ⟨rfl, hr, hf⟩
  have HR := Lib.hid hr; clear hr
  go_wp2
  go_ret
  exact ⟨rfl, HR.out, hf⟩
theorem ru64_short {w : World} {rb cb db : Nat} {l : List Nat} (h : Rdr w rb cb db l) (hl : l.length < 8) :
    Calls Tryz.prog 74 #[.pointer (some ⟨rb, 0, none⟩)] w (Thrown w rb cb 4) := by
  have HN := Lib.hid (rnumber_short 8 h (by omega) hl)
  clear h
  go_enter Tryz.func74, Tryz.ntmps74
  go_wp2_with fail
  refine HN.out.mono ?_
  rintro e w' ⟨rfl, h1, h2⟩
  exact ⟨rfl, rfl, h1, h2⟩

/-- What a counted call takes. -/
def Counted (w : World) (rb cb db : Nat) (l : List Nat) (n : Nat) (e : Ending) (w' : World) : Prop :=
  ∃ a cap, e = .returned (.slice a n cap) ∧ Bytes w' a ((l.drop 4).take n) ∧ n ≤ cap ∧ cap ≤ 9223372036854775807 ∧ (a = none → cap = 0) ∧ (∀ x, a = some x → x.block = db) ∧ Rdr w' rb cb db (l.drop (4 + n)) ∧ Frm [rb] w w'
/-- What Bytes hands back. -/
def GotBytes (w : World) (rb cb db : Nat) (l : List Nat) (n : Nat) (e : Ending) (w' : World) : Prop :=
  ∃ a cap, e = .returned (.slice a n cap) ∧ Bytes w' a ((l.drop 4).take n) ∧ (a = none → cap = 0) ∧ Rdr w' rb cb db (l.drop (4 + n)) ∧ Frm [rb] w w'
end Go.Proofs.YtcbpppdmkhpkkaaGreat
/- Contracts of Read's deferred closure, by how Read is left. -/
namespace Go.Proofs.YtcbpppdmkhpkkaaGreat
open Go.RowKit

theorem neq_same {P : Program} (w : World) {tp te : TypeId} {j : TypeInfo} (a : Addr) (hp : P.underlying tp = some (.pointer te)) (hte : P.info? te = some j) :
    (binOp .neq tp (.pointer (some a)) (.pointer (some a))).run P w = .ok (.bool false) w := by
  have h : ∀ d : Nat, (Op.equalIn (d + 1) tp (.pointer (some a)) (.pointer (some a))).run P w = .ok true w := fun d => by
    simp [Op.equalIn, run_underlying hp, sizeOf, typeInfo, hte, run_sameAddr_same]
  simp only [binOp]
  simp [Op.equal, Op.maxDepth, h 9999]
theorem call_info : ∃ j, Tryz.prog.info? 184 = some j := by
  have h : (Tryz.prog.info? 184).isSome = true := by kernel_rfl
  exact Option.isSome_iff_exists.1 h
theorem neq_call (a : Addr) (w : World) : (binOp .neq 182 (.pointer (some a)) (.pointer (some a))).run Tryz.prog w = .ok (.bool false) w := by
  obtain ⟨j, hj⟩ := call_info
  exact neq_same w a Tryz.underlying182 hj
theorem as_call (v : Option Addr) (w : World) : (Instr.typeAssert (.iface 182 (.pointer v)) 20 182 true).run Tryz.prog w = .ok (.tuple #[.pointer v, .bool true]) w := by kernel_rfl
theorem as_call_int (n : Int) (w : World) : (Instr.typeAssert (.iface 3 (.int .i64 n)) 20 182 true).run Tryz.prog w = .ok (.tuple #[.pointer none, .bool false]) w := by kernel_rfl

theorem d_idle (ob cb eb : Nat) (code : Int) (w : World) (ho : Whole w ob 182 #[.pointer (some ⟨cb, 0, none⟩)]) (hc : Whole w cb 184 #[.bool false, .int .i64 code]) :
    CallsD Tryz.prog 107 #[.pointer (some ⟨ob, 0, none⟩), .pointer (some ⟨eb, 0, none⟩)] .returning w fun e u' w' =>
      e = .returned (.tuple #[]) ∧ u' = .returning ∧ w' = w.setCell ⟨cb, 0, none⟩ (.bool true) := by
  have hne : ob ≠ cb := ho.ne hc (by decide)
  have c0 := ho.cell 0
  have c1 := hc.cell 0
  have f1 := hc.free 0
  have c2 := (ho.other (p := ⟨cb, 0, none⟩) hne (.bool true)).cell 0
  have c3 := (hc.put 0 (.bool true)).cell 1
  simp at c0 c1 c2 c3
  clear ho hc
  refine callsD_of_wpS Tryz.func107 rfl fun c₀ cs hu => ?_
  simp only [Tryz.ntmps107, List.size_toArray, List.length_cons, List.length_nil, Nat.reduceAdd, Nat.reduceSub, Array.replicate_succ, Array.replicate_zero, List.push_toArray, List.append_toArray, List.nil_append, List.cons_append]
  apply wpS_seq
  refine wpS_of_wp ?_
  go_wp2
  show Code.wpS _ _ _ _ _ _
  apply wpS_seq
  apply wpS_region
  simp [wpOpsS, go_sem, recoverD, hu, Exit.thenS]
  refine wpS_of_wp ?_
  go_wp2
  cases c₀
  simp_all [bodyPostS, results, Tryz.results107]

theorem d_own (ob cb eb : Nat) (code x : Int) (older : List PanicEntry) (w : World) (ho : Whole w ob 182 #[.pointer (some ⟨cb, 0, none⟩)]) (hc : Whole w cb 184 #[.bool false, .int .i64 code]) (he : Whole w eb 43 #[.int .i64 x]) :
    CallsD Tryz.prog 107 #[.pointer (some ⟨ob, 0, none⟩), .pointer (some ⟨eb, 0, none⟩)] (.panicking ({ v := .iface 182 (.pointer (some ⟨cb, 0, none⟩)), recovered := false } :: older)) w fun e u' w' =>
      e = .returned (.tuple #[]) ∧ u' = .panicking ({ v := .iface 182 (.pointer (some ⟨cb, 0, none⟩)), recovered := true } :: older) ∧ w' = (w.setCell ⟨cb, 0, none⟩ (.bool true)).setCell ⟨eb, 0, none⟩ (.int .i64 code) := by
  have hne : ob ≠ cb := ho.ne hc (by decide)
  have hne2 : eb ≠ cb := he.ne hc (by decide)
  have e0 := (he.other (p := ⟨cb, 0, none⟩) hne2 (.bool true)).cell 0
  have e1 := (he.other (p := ⟨cb, 0, none⟩) hne2 (.bool true)).free 0
  simp at e0
  clear he
  have ta := as_call
  have ta2 := as_call_int
  have tn := neq_call
  have c0 := ho.cell 0
  have c1 := hc.cell 0
  have f1 := hc.free 0
  have c2 := (ho.other (p := ⟨cb, 0, none⟩) hne (.bool true)).cell 0
  have c3 := (hc.put 0 (.bool true)).cell 1
  simp at c0 c1 c2 c3
  clear ho hc
  refine callsD_of_wpS Tryz.func107 rfl fun c₀ cs hu => ?_
  simp only [Tryz.ntmps107, List.size_toArray, List.length_cons, List.length_nil, Nat.reduceAdd, Nat.reduceSub, Array.replicate_succ, Array.replicate_zero, List.push_toArray, List.append_toArray, List.nil_append, List.cons_append]
  apply wpS_seq
  refine wpS_of_wp ?_
  go_wp2
  show Code.wpS _ _ _ _ _ _
  apply wpS_seq
  apply wpS_region
  simp [wpOpsS, go_sem, recoverD, hu, Exit.thenS]
  refine wpS_of_wp ?_
  go_wp2
  simp [bodyPostS, results, Tryz.results107]

end Go.Proofs.YtcbpppdmkhpkkaaGreat
/- Contract of Read, whatever is handed over as by: by how by is left. -/
namespace Go.Proofs.YtcbpppdmkhpkkaaGreat
open Go.RowKit

/-- What by is told: where its reader is, and that nothing else of old has turned. -/
structure Told (w w1 : World) (rb cb db : Nat) (l : List Nat) : Prop where
  frm : Frm [] w w1
  rdr : Rdr w1 rb cb db l
  hr : w.heap.size ≤ rb
  hc : w.heap.size ≤ cb
  hd : w.heap.size ≤ db
  dlt : db < w1.heap.size

/-- What by leaves where it returns: so much left (rest), the caller's own word (Q), and of what stood when it was called nothing but its reader, and what is older than Read, has turned. -/
def ByRet (w w1 : World) (rb cb db : Nat) (Q : World → List Nat → Prop) (e : Ending) (w2 : World) : Prop :=
  e = .returned (.tuple #[]) ∧ ∃ rest S, Q w2 rest ∧ Rdr w2 rb cb db rest ∧ Frm S w1 w2 ∧ ∀ x ∈ S, x = rb ∨ x = cb ∨ x < w.heap.size ∨ w1.heap.size ≤ x

/-- The same where by throws what its reader throws, with the code c. -/
def ByThrow (w w1 : World) (rb cb : Nat) (c : Int) (Q : World → Prop) (e : Ending) (w2 : World) : Prop :=
  e = .panicked [{ v := .iface 182 (.pointer (some ⟨cb, 0, none⟩)), recovered := false }] ∧ ∃ S, Q w2 ∧ Whole w2 cb 184 #[.bool false, .int .i64 c] ∧ Frm S w1 w2 ∧ ∀ x ∈ S, x = rb ∨ x = cb ∨ x < w.heap.size ∨ w1.heap.size ≤ x
/-- The same where by panics with an int. -/
def ByPanic (w w1 : World) (rb cb : Nat) (m : Int) (Q : World → Prop) (e : Ending) (w2 : World) : Prop :=
  e = .panicked [{ v := .iface 3 (.int .i64 m), recovered := false }] ∧ ∃ S c, Q w2 ∧ Whole w2 cb 184 #[.bool false, .int .i64 c] ∧ Frm S w1 w2 ∧ ∀ x ∈ S, x = rb ∨ x = cb ∨ x < w.heap.size ∨ w1.heap.size ≤ x

/-- What Read leaves: its answer; the world that by left, but for Read's own blocks. -/
def ReadRet (w : World) (Q : World → Int → Prop) (e : Ending) (w' : World) : Prop :=
  ∃ w2 c T, e = .returned (.int .i64 c) ∧ Q w2 c ∧ Frm T w2 w' ∧ ∀ x ∈ T, w.heap.size ≤ x

def ReadPanics (w : World) (m : Int) (Q : World → Prop) (e : Ending) (w' : World) : Prop :=
  ∃ w2 T, e = .panicked [{ v := .iface 3 (.int .i64 m), recovered := false }, { v := .iface 3 (.int .i64 m), recovered := true }] ∧ Q w2 ∧ Frm T w2 w' ∧ ∀ x ∈ T, w.heap.size ≤ x

theorem end_any {w : World} {rb cb db : Nat} {l : List Nat} (h : Rdr w rb cb db l) (c : Int) (hc : c = if l = [] then 0 else 5) :
    Calls Tryz.prog 108 #[.pointer (some ⟨cb, 0, none⟩), .pointer (some ⟨rb, 0, none⟩)] w fun e w' => e = .returned (.int .i64 c) ∧ w = w' := by
  have H := Lib.hid h
  obtain ⟨a, cap, _, h2, _⟩ := h
  have c1 := h2.cell 1
  simp at c1
  clear h2
  have HC := Lib.hid hc; clear hc
  by_cases hl : l = []
  · have hc0 : c = 0 := by rw [HC.out, if_pos hl]
    have h0 : l.length = 0 := by rw [hl]; rfl
    subst hc0
    have HL := Lib.hid hl; clear hl HC
    go_enter Tryz.func108, Tryz.ntmps108
    go_wp2_with (go_at_call 137; refine (left_any H.out).mono ?_; rintro e w' ⟨rfl, rfl⟩)
    go_ret
    exact ⟨rfl, rfl⟩
  · have hc5 : c = 5 := by rw [HC.out, if_neg hl]
    have h0 : 0 < l.length := by cases l with | nil => exact absurd rfl hl | cons _ _ => simp
    subst hc5
    clear hl HC
    go_enter Tryz.func108, Tryz.ntmps108
    go_wp2_with (go_at_call 137; refine (left_any H.out).mono ?_; rintro e w' ⟨rfl, rfl⟩)
    go_ret
    exact ⟨rfl, rfl⟩

theorem Whole.made' {w : World} (t : TypeId) (cs : Array Value) {g : Nat} (hg : g = w.heap.size) : Whole (w.alloc (.cells cs t)) g t cs := by subst hg; exact Whole.made w t cs

/-- Where Read calls by. -/
theorem told_mk {w w0 w1 : World} {cb ob : Nat} {l : List Nat} {a' : Option Addr} {cap' : Nat} (h8 : ∀ c ∈ l, c < 256) (hc : Whole w0 cb 184 #[.bool false, .int .i64 0]) (ho : Whole w0 ob 182 #[.pointer (some ⟨cb, 0, none⟩)])
    (hf : Frm [] w w0) (e2 : cb = w.heap.size + 1) (e3 : ob = w.heap.size + 1 + 1) (hown : w1.ownsRow w0.drew.heap.size 5 1 (.slice a' l.length cap') l.length (l.map u8v)) (hfrm : Frm [] w0.drew w1) :
    ∃ db, Told w (w1.alloc (.cells #[.slice a' l.length cap', .pointer (some ⟨cb, 0, none⟩)] 186)) w1.heap.size cb db l := by
  have hf1 : Frm [] w w1 := hf.drew.trans hfrm (by simp) (by simp)
  have hc1 : Whole w1 cb _ _ := hfrm.undrew.whole hc (by simp)
  have ho1 : Whole w1 ob _ _ := hfrm.undrew.whole ho (by simp)
  have hb := bytes_of_own hown h8
  have hcap : l.length ≤ cap' ∧ cap' ≤ 9223372036854775807 := by
    rcases hown.2 with ⟨h, h0⟩ | ⟨g, cap, cur, hv, _, _, hnc, hm, _⟩
    · injection h with _ _ h; omega
    · injection hv with _ _ h; unfold maxLen at hm; omega
  have hlt := hc1.lt
  have hlo := ho1.lt
  have mk : ∀ db, (∀ x, a' = some x → x.block = db) → w.heap.size ≤ db → db < w1.heap.size → db ≠ cb → Told w (w1.alloc (.cells #[.slice a' l.length cap', .pointer (some ⟨cb, 0, none⟩)] 186)) w1.heap.size cb db l := by
    intro db h1 h2 h3 h4
    exact ⟨hf1.alloc _, ⟨a', cap', Whole.made _ _ _, hc1.alloc _, ((Frm.refl [] w1).alloc _).bytes hb.2.1 (by simp), hcap.1, hcap.2, hb.2.2, h1, by omega, h4⟩, by omega, by omega, h2, by simp; omega⟩
  cases ha : a' with
  | none => exact ⟨ob, by rw [← ha]; exact mk ob (by rw [ha]; intro x hx; cases hx) (by omega) hlo (by omega)⟩
  | some x =>
    have hx := hown.lt x.block (by rw [ha]; rfl)
    have h0 : w.heap.size ≤ w0.heap.size := hf.size
    have h1 : w0.drew.heap.size = w0.heap.size := rfl
    have hc0 := hc.lt
    exact ⟨x.block, by rw [← ha]; exact mk x.block (by rw [ha]; intro y hy; cases hy; rfl) (by omega) hx.2 (by omega)⟩

set_option maxHeartbeats 1000000 in
theorem read_ret (G : FuncId) (cp : Array Value) (a : Option Addr) (n cap : Nat) (l : List Nat) (w : World) (Q : World → List Nat → Prop) (hl : Bytes w a l) (hn : n = l.length) (hnil : a = none → cap = 0) (hfit : n ≤ 140737488355328)
    (hG : ∀ args w, (callFunc G args).run Tryz.prog w = .ok (.enter G args) w)
    (hby : ∀ w1 rb cb db, Told w w1 rb cb db l → Calls Tryz.prog G (#[.pointer (some ⟨rb, 0, none⟩)] ++ cp) w1 (ByRet w w1 rb cb db Q)) :
    Calls Tryz.prog 72 #[.slice a n cap, .func (.func G) #[] cp] w (ReadRet w fun w2 c => ∃ rest, Q w2 rest ∧ c = if rest = [] then 0 else 5) := by
  have hmf : ∀ (fn : Fn) (first cap : Array Value) (w : World), (Instr.makeFunc fn first cap).run Tryz.prog w = .ok (.func fn first cap) w := fun _ _ _ _ => rfl
  have hq : ∀ (w : World), (binOp .eql 147 (.func (.func G) #[] cp) .nilFunc).run Tryz.prog w = .ok (.bool false) w := by
    intro w; kernel_rfl
  have HB := Lib.hid hby; clear hby
  have HL := Lib.hid hl; clear hl
  have HN := Lib.hid hn; clear hn
  go_enter_defers Tryz.func72, Tryz.ntmps72
  go_wp2
  clear hq
  obtain ⟨w0, hw0⟩ : ∃ w0, w0 = ((w.alloc (Obj.cells #[Value.int IntKind.i64 0] 43)).alloc (Obj.cells #[Value.bool false, Value.int IntKind.i64 0] 184)).alloc (Obj.cells #[Value.pointer (some ⟨w.heap.size + 1, 0, none⟩)] 182) := ⟨_, rfl⟩
  rw [← hw0]
  obtain ⟨eb, heb⟩ : ∃ eb, eb = w.heap.size := ⟨_, rfl⟩
  obtain ⟨cb, hcb⟩ : ∃ cb, cb = w.heap.size + 1 := ⟨_, rfl⟩
  obtain ⟨ob, hob⟩ : ∃ ob, ob = w.heap.size + 1 + 1 := ⟨_, rfl⟩
  have he0 : Whole w0 eb 43 #[.int .i64 0] := by rw [hw0, heb]; exact ((Whole.made w _ _).alloc _).alloc _
  have hc0 : Whole w0 cb 184 #[.bool false, .int .i64 0] := by rw [hw0, hcb]; exact (Whole.made' _ _ (by simp)).alloc _
  have ho0 : Whole w0 ob 182 #[.pointer (some ⟨cb, 0, none⟩)] := by rw [hw0, hob, hcb]; exact Whole.made' _ _ (by simp)
  have hf0 : Frm [] w w0 := by rw [hw0]; exact (((Frm.refl _ _).alloc _).alloc _).alloc _
  rw [← hob, ← hcb, ← heb]
  have hsz : w0.heap.size = w.heap.size + 3 := by rw [hw0]; simp
  clear hw0
  have k0 := ho0.cell 0
  simp at k0
  have hoblt := ho0.lt
  have HE := Lib.hid he0; clear he0
  have HC := Lib.hid hc0; clear hc0
  have HO := Lib.hid ho0; clear ho0
  have HF := Lib.hid hf0; clear hf0
  have E1 := Lib.hid heb; clear heb
  have E2 := Lib.hid hcb; clear hcb
  have E3 := Lib.hid hob; clear hob
  have E4 := Lib.hid hsz; clear hsz
  go_region_held3 (fun w' => w'.cell? ⟨ob, 0, none⟩ = some (.pointer (some ⟨cb, 0, none⟩))) (first | go_keep | (rw [hfrm.cell (by simpa using hoblt) (by simp)]; assumption)) ((go_at_call 88; refine (clone_any a n cap l _ (HF.out.drew.bytes HL.out (by simp)) HN.out hnil hfit).mono ?_; rintro e w1 ⟨a', cap', rfl, hown, hfrm⟩))
  obtain ⟨db, htold⟩ := told_mk HL.out.1 HC.out HO.out HF.out E2.out E3.out hown hfrm
  have ho1 := (hfrm.undrew.whole HO.out (by simp)).alloc (.cells #[.slice a' l.length cap', .pointer (some ⟨cb, 0, none⟩)] 186)
  have he1 := (hfrm.undrew.whole HE.out (by simp)).alloc (.cells #[.slice a' l.length cap', .pointer (some ⟨cb, 0, none⟩)] 186)
  have hne1 : ob < w1.heap.size := Nat.lt_of_lt_of_le HO.out.lt hfrm.undrew.size
  have hne2 : eb < w1.heap.size := Nat.lt_of_lt_of_le HE.out.lt hfrm.undrew.size
  clear hown hfrm
  obtain ⟨W, hW⟩ : ∃ W, W = w1.alloc (Obj.cells #[Value.slice a' l.length cap', Value.pointer (some ⟨cb, 0, none⟩)] 186) := ⟨_, rfl⟩
  rw [← hW] at htold ho1 he1 ⊢
  obtain ⟨rb, hrb⟩ : ∃ rb, rb = w1.heap.size := ⟨_, rfl⟩
  rw [← hrb] at htold hne1 hne2 ⊢
  clear hW hrb
  have HT := Lib.hid htold; clear htold
  have HO1 := Lib.hid ho1; clear ho1
  have HE1 := Lib.hid he1; clear he1
  clear k0 hoblt
  go_wp2_with fail
  refine (HB.out _ _ _ _ HT.out).mono ?_
  rintro e w2 ⟨rfl, rest, S, hQ, hr2, hS, hx⟩
  have hTf := HT.out.frm
  have hlW1 : eb < W.heap.size := HE1.out.lt
  have hlW2 : ob < W.heap.size := HO1.out.lt
  have nS : ∀ y, w.heap.size ≤ y → y < W.heap.size → y ≠ rb → y ≠ cb → y ∉ S := by
    intro y h1 h2 h3 h4 hm
    rcases hx y hm with h | h | h | h <;> omega
  have ho2 := hS.whole HO1.out (nS ob (by have := E3.out; omega) hlW2 (by omega) (by have := E2.out; have := E3.out; omega))
  have he2 := hS.whole HE1.out (nS eb (by have := E1.out; omega) hlW1 (by omega) (by have := E2.out; have := E1.out; omega))
  have hcge : w.heap.size ≤ cb := HT.out.hc
  have hege : w.heap.size ≤ eb := by have := E1.out; omega
  have d1 : eb ≠ ob := by have := E1.out; have := E3.out; omega
  have d2 : eb ≠ cb := by have := E1.out; have := E2.out; omega
  clear nS hTf hlW1 hlW2 hx hS
  have k2 := ho2.cell 0
  have k3 := he2.cell 0
  have k4 := he2.free 0
  simp at k2 k3
  obtain ⟨ra, rcap, _, hcw, _⟩ := id hr2
  obtain ⟨c, hc⟩ : ∃ c : Int, c = if rest = [] then 0 else 5 := ⟨_, rfl⟩
  have EN := Lib.hid (end_any hr2 c hc)
  have HQ : Hid (∃ rest, Q w2 rest ∧ c = if rest = [] then 0 else 5) := ⟨rest, hQ, hc⟩
  have HE2 := Lib.hid (he2.put 0 (.int .i64 c)); clear he2
  have HO2 := Lib.hid (ho2.other (p := ⟨eb, 0, none⟩) (Ne.symm d1) (.int .i64 c)); clear ho2
  have HC2 := Lib.hid (hcw.other (p := ⟨eb, 0, none⟩) (Ne.symm d2) (.int .i64 c)); clear hcw
  clear hc hQ hr2
  go_wp2_with (go_at_call 108; refine EN.out.mono ?_; rintro e w' ⟨rfl, rfl⟩)
  refine leaves_cons (f := 107) (args := #[.pointer (some ⟨ob, 0, none⟩), .pointer (some ⟨eb, 0, none⟩)]) (by simp) (by simp [go_sem]) ?_
  refine (d_idle ob cb eb 0 _ HO2.out HC2.out).mono ?_
  rintro e u' w'' ⟨rfl, rfl, rfl⟩
  have r0 := (HE2.out.other (p := ⟨cb, 0, none⟩) d2 (.bool true)).cell 0
  simp at r0
  have FIN : ReadRet w (fun w2 c => ∃ rest, Q w2 rest ∧ c = if rest = [] then 0 else 5) (.returned (.int .i64 c)) ((w2.setCell ⟨eb, 0, none⟩ (.int .i64 c)).setCell ⟨cb, 0, none⟩ (.bool true)) :=
    ⟨w2, c, [eb, cb], rfl, HQ.out, ((Frm.refl _ _).setCell (.inl (by simp)) _).setCell (.inl (by simp)) _, by simp; omega⟩
  simp [Leaves, settle, results, Tryz.results72, go_sem, r0]
  exact FIN

set_option maxHeartbeats 1000000 in
theorem read_throw (G : FuncId) (cp : Array Value) (a : Option Addr) (n cap : Nat) (l : List Nat) (w : World) (Q : World → Prop) (c : Int) (hl : Bytes w a l) (hn : n = l.length) (hnil : a = none → cap = 0) (hfit : n ≤ 140737488355328)
    (hG : ∀ args w, (callFunc G args).run Tryz.prog w = .ok (.enter G args) w)
    (hby : ∀ w1 rb cb db, Told w w1 rb cb db l → Calls Tryz.prog G (#[.pointer (some ⟨rb, 0, none⟩)] ++ cp) w1 (ByThrow w w1 rb cb c Q)) :
    Calls Tryz.prog 72 #[.slice a n cap, .func (.func G) #[] cp] w (ReadRet w fun w2 c' => Q w2 ∧ c' = c) := by
  have hmf : ∀ (fn : Fn) (first cap : Array Value) (w : World), (Instr.makeFunc fn first cap).run Tryz.prog w = .ok (.func fn first cap) w := fun _ _ _ _ => rfl
  have hq : ∀ (w : World), (binOp .eql 147 (.func (.func G) #[] cp) .nilFunc).run Tryz.prog w = .ok (.bool false) w := by
    intro w; kernel_rfl
  have HB := Lib.hid hby; clear hby
  have HL := Lib.hid hl; clear hl
  have HN := Lib.hid hn; clear hn
  go_enter_defers Tryz.func72, Tryz.ntmps72
  go_wp2
  clear hq
  obtain ⟨w0, hw0⟩ : ∃ w0, w0 = ((w.alloc (Obj.cells #[Value.int IntKind.i64 0] 43)).alloc (Obj.cells #[Value.bool false, Value.int IntKind.i64 0] 184)).alloc (Obj.cells #[Value.pointer (some ⟨w.heap.size + 1, 0, none⟩)] 182) := ⟨_, rfl⟩
  rw [← hw0]
  obtain ⟨eb, heb⟩ : ∃ eb, eb = w.heap.size := ⟨_, rfl⟩
  obtain ⟨cb, hcb⟩ : ∃ cb, cb = w.heap.size + 1 := ⟨_, rfl⟩
  obtain ⟨ob, hob⟩ : ∃ ob, ob = w.heap.size + 1 + 1 := ⟨_, rfl⟩
  have he0 : Whole w0 eb 43 #[.int .i64 0] := by rw [hw0, heb]; exact ((Whole.made w _ _).alloc _).alloc _
  have hc0 : Whole w0 cb 184 #[.bool false, .int .i64 0] := by rw [hw0, hcb]; exact (Whole.made' _ _ (by simp)).alloc _
  have ho0 : Whole w0 ob 182 #[.pointer (some ⟨cb, 0, none⟩)] := by rw [hw0, hob, hcb]; exact Whole.made' _ _ (by simp)
  have hf0 : Frm [] w w0 := by rw [hw0]; exact (((Frm.refl _ _).alloc _).alloc _).alloc _
  rw [← hob, ← hcb, ← heb]
  have hsz : w0.heap.size = w.heap.size + 3 := by rw [hw0]; simp
  clear hw0
  have k0 := ho0.cell 0
  simp at k0
  have hoblt := ho0.lt
  have HE := Lib.hid he0; clear he0
  have HC := Lib.hid hc0; clear hc0
  have HO := Lib.hid ho0; clear ho0
  have HF := Lib.hid hf0; clear hf0
  have E1 := Lib.hid heb; clear heb
  have E2 := Lib.hid hcb; clear hcb
  have E3 := Lib.hid hob; clear hob
  have E4 := Lib.hid hsz; clear hsz
  go_region_held3 (fun w' => w'.cell? ⟨ob, 0, none⟩ = some (.pointer (some ⟨cb, 0, none⟩))) (first | go_keep | (rw [hfrm.cell (by simpa using hoblt) (by simp)]; assumption)) ((go_at_call 88; refine (clone_any a n cap l _ (HF.out.drew.bytes HL.out (by simp)) HN.out hnil hfit).mono ?_; rintro e w1 ⟨a', cap', rfl, hown, hfrm⟩))
  obtain ⟨db, htold⟩ := told_mk HL.out.1 HC.out HO.out HF.out E2.out E3.out hown hfrm
  have ho1 := (hfrm.undrew.whole HO.out (by simp)).alloc (.cells #[.slice a' l.length cap', .pointer (some ⟨cb, 0, none⟩)] 186)
  have he1 := (hfrm.undrew.whole HE.out (by simp)).alloc (.cells #[.slice a' l.length cap', .pointer (some ⟨cb, 0, none⟩)] 186)
  have hne1 : ob < w1.heap.size := Nat.lt_of_lt_of_le HO.out.lt hfrm.undrew.size
  have hne2 : eb < w1.heap.size := Nat.lt_of_lt_of_le HE.out.lt hfrm.undrew.size
  clear hown hfrm
  obtain ⟨W, hW⟩ : ∃ W, W = w1.alloc (Obj.cells #[Value.slice a' l.length cap', Value.pointer (some ⟨cb, 0, none⟩)] 186) := ⟨_, rfl⟩
  rw [← hW] at htold ho1 he1 ⊢
  obtain ⟨rb, hrb⟩ : ∃ rb, rb = w1.heap.size := ⟨_, rfl⟩
  rw [← hrb] at htold hne1 hne2 ⊢
  clear hW hrb
  have HT := Lib.hid htold; clear htold
  have HO1 := Lib.hid ho1; clear ho1
  have HE1 := Lib.hid he1; clear he1
  clear k0 hoblt
  go_wp2_with fail
  refine (HB.out _ _ _ _ HT.out).mono ?_
  rintro e w2 ⟨rfl, S, hQ, hcw, hS, hx⟩
  have hTf := HT.out.frm
  have hlW1 : eb < W.heap.size := HE1.out.lt
  have hlW2 : ob < W.heap.size := HO1.out.lt
  have nS : ∀ y, w.heap.size ≤ y → y < W.heap.size → y ≠ rb → y ≠ cb → y ∉ S := by
    intro y h1 h2 h3 h4 hm
    rcases hx y hm with h | h | h | h <;> omega
  have ho2 := hS.whole HO1.out (nS ob (by have := E3.out; omega) hlW2 (by omega) (by have := E2.out; have := E3.out; omega))
  have he2 := hS.whole HE1.out (nS eb (by have := E1.out; omega) hlW1 (by omega) (by have := E2.out; have := E1.out; omega))
  have hcge : w.heap.size ≤ cb := HT.out.hc
  have hege : w.heap.size ≤ eb := by have := E1.out; omega
  have d1 : eb ≠ ob := by have := E1.out; have := E3.out; omega
  have d2 : eb ≠ cb := by have := E1.out; have := E2.out; omega
  clear nS hTf hlW1 hlW2 hx hS
  refine leaves_cons (f := 107) (args := #[.pointer (some ⟨ob, 0, none⟩), .pointer (some ⟨eb, 0, none⟩)]) (by simp) (by simp [go_sem]) ?_
  refine (d_own ob cb eb c 0 [] _ ho2 hcw he2).mono ?_
  rintro e u' w'' ⟨rfl, rfl, rfl⟩
  have r0 := ((he2.other (p := ⟨cb, 0, none⟩) d2 (.bool true)).put 0 (.int .i64 c)).cell 0
  simp at r0
  have FIN : ReadRet w (fun w2 c' => Q w2 ∧ c' = c) (.returned (.int .i64 c)) ((w2.setCell ⟨cb, 0, none⟩ (.bool true)).setCell ⟨eb, 0, none⟩ (.int .i64 c)) :=
    ⟨w2, c, [eb, cb], rfl, ⟨hQ, rfl⟩, ((Frm.refl _ _).setCell (.inl (by simp)) _).setCell (.inl (by simp)) _, by simp; omega⟩
  simp [Leaves, settle, results, Tryz.results72, go_sem, r0]
  exact FIN

end Go.Proofs.YtcbpppdmkhpkkaaGreat
/- Contract of Writer.put, whether or not something was put ahead. -/
namespace Go.Proofs.YtcbpppdmkhpkkaaGreat
open Go.RowKit

set_option maxHeartbeats 1000000 in
/-- put where nothing was put. -/
theorem put_off (B p : Nat) (a : Option Addr) (n cap : Nat) (b : List Nat) (w : World)
    (hp : Whole w p 120 #[.pointer none, .int .i64 0]) (hBp : B ≤ p)
    (hb : Bytes w a b) (hap : b ≠ [] → ∀ x, a = some x → x.block ≠ p) (hn : n = b.length) (hnil : a = none → cap = 0) (hfit : n ≤ 140737488355328) :
    Calls Tryz.prog 126 #[.pointer (some ⟨p, 0, none⟩), .slice a n cap] w (PutEnd w B p [p] [] b) := by
  have hBw : B ≤ w.heap.size := Nat.le_of_lt (Nat.lt_of_le_of_lt hBp hp.lt)
  have hlt := hp.lt
  obtain ⟨i0, hi, hz0, hz1, hz2⟩ := info_parts Tryz.info5
  have c0 := hp.cell 0
  have f0 := hp.free 0
  simp at c0
  have HP := Lib.hid hp; clear hp
  have HB := Lib.hid hb; clear hb
  have HN := Lib.hid hn; clear hn
  have HA := Lib.hid hap; clear hap
  go_enter Tryz.func126, Tryz.ntmps126
  go_wp2
  go_quiet (fail)
  go_wp2_with fail
  refine (done_nil p _ (by exact HP.out)).mono ?_
  rintro e w' ⟨rfl, rfl⟩
  clear c0 f0
  have HP2 := ((show Whole (w.drewN nq) p _ _ from HP.out).alloc (.cells #[.slice none 0 0] 166))
  have HR2 := Whole.made (w.drewN nq) 166 #[.slice none 0 0]
  have HF2 : Frm [p] w ((w.drewN nq).alloc (.cells #[.slice none 0 0] 166)) := ((Frm.refl [p] w).drewN nq).alloc _
  have k0 := HP2.cell 0
  have k1 := HP2.free 0
  simp at k0
  have hpr : p ≠ w.heap.size := by omega
  have HP3 := Lib.hid (HP2.put 0 (.pointer (some ⟨w.heap.size, 0, none⟩))); clear HP2
  have HR3 := Lib.hid (HR2.other (p := ⟨p, 0, none⟩) (by exact Ne.symm hpr) (.pointer (some ⟨w.heap.size, 0, none⟩))); clear HR2
  have HF3 := Lib.hid (HF2.setCell (p := ⟨p, 0, none⟩) (.inl (by simp)) (.pointer (some ⟨w.heap.size, 0, none⟩))); clear HF2
  go_wp2
  clear k0 k1
  obtain ⟨r, hr⟩ : ∃ r, r = w.heap.size := ⟨_, rfl⟩
  rw [← hr] at HP3 HR3 HF3 hpr ⊢
  obtain ⟨w3, hw3⟩ : ∃ w3, w3 = ((w.drewN nq).alloc (Obj.cells #[Value.slice none 0 0] 166)).setCell ⟨p, 0, none⟩ (Value.pointer (some ⟨r, 0, none⟩)) := ⟨_, rfl⟩
  rw [← hw3] at HP3 HF3 ⊢
  replace HR3 : Hid (Whole w3 r 166 #[.slice none 0 0]) := by rw [hw3]; simpa [← hr] using HR3
  have hBw3 : B ≤ w3.heap.size := Nat.le_trans hBw HF3.out.size
  have hBr : B ≤ r := by omega
  have HB3 : Hid (Bytes w3 a b) := HF3.out.bytes' HB.out (fun hne x hx => by have := HA.out hne x hx; simpa using this)
  have h8b := HB.out.1
  have hp3 := HP3.out
  have hr3 := HR3.out
  simp at hp3
  have FIN := Lib.hid (fun (m : Nat) (w1 : World) (a' : Option Addr) (cap' : Nat) => put_end (B := B) (p := p) (r := r) (sa := none) (scap := 0) (k := 0) (n := n) (l := []) (b := b) (w := w3) (w1 := w1) (m := m) (a' := a') (cap' := cap') rfl HN.out (by simp) h8b hp3 hr3 (World.ownsRow_nil _ _ _ _) hBr hBp)
  have keep : ∀ (m : Nat) (w1 : World), (w3.drewN m).grownBy w1 none → Whole w1 p 120 #[.pointer (some ⟨r, 0, none⟩), .int .i64 0] ∧ Whole w1 r 166 #[.slice none 0 0] := fun m w1 hg =>
    ⟨(hg.block p hp3.lt (by simp)).trans hp3, (hg.block r hr3.lt (by simp)).trans hr3⟩
  have KEEP := Lib.hid keep; clear keep
  have END : Hid (∀ w', Put w3 w' B p (p :: r :: (Value.slice none 0 0).ownBlock.toList) [] b → Put w w' B p [p] [] b) := by
    rintro w' ⟨F', hw, hf, hF⟩
    refine ⟨F', hw, HF3.out.trans hf (by simp) ?_, fun x hx => ?_⟩
    · intro x hx
      simp [Value.ownBlock] at hx
      rcases hx with rfl | rfl
      · left; simp
      · right; omega
    · rcases hF x hx with h | h
      · simp [Value.ownBlock] at h
        rcases h with rfl | rfl
        · left; simp
        · right; omega
      · right; have := HF3.out.size; omega
  have c0 := hp3.cell 0
  have c1 := hp3.cell 1
  have cr := hr3.cell 0
  have fp0 := hp3.free 0
  have fp1 := hp3.free 1
  have fr := hr3.free 0
  simp at c0 c1 cr
  clear hp3 hr3 HP3 HR3 HF3 h8b HB HA
  have HR := Lib.hid hr; clear hr
  have HW := Lib.hid hw3; clear hw3
  go_region_law ((refine step_app rfl (.tmp 43) (.tmp 44) 36 rfl B 5 i0 Tryz.underlying36 hi hz0 hz1 hz2 (.slice none 0 0) 0 [] rfl (World.ownsRow_nil _ _ _ _) _ _ _ b rfl ?_ HN.out hnil ?_ ?_ ?_; (exact HB3.out); (omega); (exact hBw3); intro a' cap' w1 happ; have HA := Lib.hid happ; obtain ⟨hp1, hr1⟩ := KEEP.out _ _ happ.grown; have q0 := hp1.cell 0; have q1 := hr1.cell 0; have q2 := hr1.free 0; simp at q0 q1; clear happ hp1 hr1))
  all_goals
    obtain ⟨hp1, hr1⟩ := KEEP.out _ _ HA.out.grown
    have hp2 := (hp1.other (p := ⟨r, 0, none⟩) hpr (.slice a' (0 + n) cap'))
    have hr2 := (hr1.put 0 (.slice a' (0 + n) cap'))
    have s0 := hp2.cell 0
    have s1 := hr2.cell 0
    have s2 := hp2.cell 1
    have s3 := hp2.free 1
    simp at s0 s1 s2 s3
    clear hp1 hr1 hp2 hr2
    go_wp2
    go_end0
    have := END.out _ (FIN.out _ _ _ _ HA.out)
    simp at this
    exact ⟨rfl, this⟩

theorem put_any {w : World} {B p : Nat} {F : List Nat} {l : List Nat} {a : Option Addr} {n cap : Nat} {b : List Nat} (h : Wr w B p F l)
    (hb : Bytes w a b) (hap : b ≠ [] → ∀ x, a = some x → x.block ≠ p) (hn : n = b.length) (hnil : a = none → cap = 0) (hfit : l.length + n ≤ 140737488355328) :
    Calls Tryz.prog 126 #[.pointer (some ⟨p, 0, none⟩), .slice a n cap] w (PutEnd w B p F l b) := by
  obtain ⟨h8, hBp, ⟨rfl, rfl, hp⟩ | ⟨r, sa, scap, hp, hr, hown, hBr, rfl⟩⟩ := h
  · exact put_off B p a n cap b w hp hBp hb hap hn hnil (by simp at hfit; exact hfit)
  · exact put_on B p r sa scap l a n cap b w h8 hp hr hown hBr hBp hb hn hnil hfit
end Go.Proofs.YtcbpppdmkhpkkaaGreat
/- Contracts of Writer.number, U8, U16, U32, U64, Bytes, Text. -/
namespace Go.Proofs.YtcbpppdmkhpkkaaGreat
open Go.RowKit

theorem own_block_lt {w : World} {base : Nat} {e : TypeId} {size n : Nat} {v : Value} {xs : List Value} (h : w.ownsRow base e size v n xs) {g : Nat} (hg : v.ownBlock = some g) : base ≤ g ∧ g < w.heap.size := h.lt g hg

theorem Wr.keep {w w' : World} {B p : Nat} {F S : List Nat} {l : List Nat} (h : Wr w B p F l) (hf : Frm S w w') (hS : ∀ x ∈ F, x ∉ S) : Wr w' B p F l := by
  obtain ⟨h8, hBp, h⟩ := h
  refine ⟨h8, hBp, ?_⟩
  rcases h with ⟨rfl, rfl, hp⟩ | ⟨r, a, cap, hp, hr, hown, hBr, rfl⟩
  · exact .inl ⟨rfl, rfl, hf.whole hp (hS p (by simp))⟩
  · exact .inr ⟨r, a, cap, hf.whole hp (hS p (by simp)), hf.whole hr (hS r (by simp)), hf.own hown (fun g hg => hS g (by rw [hg]; simp)), hBr, rfl⟩
theorem Wr.lt {w : World} {B p : Nat} {F : List Nat} {l : List Nat} (h : Wr w B p F l) : ∀ x ∈ F, B ≤ x ∧ x < w.heap.size := by
  obtain ⟨h8, hBp, h⟩ := h
  rcases h with ⟨rfl, rfl, hp⟩ | ⟨r, a, cap, hp, hr, hown, hBr, rfl⟩
  · intro x hx; simp at hx; subst hx; exact ⟨hBp, hp.lt⟩
  · intro x hx
    simp only [List.mem_cons] at hx
    rcases hx with rfl | rfl | hx
    · exact ⟨hBp, hp.lt⟩
    · exact ⟨hBr, hr.lt⟩
    · cases hg : (Value.slice a l.length cap).ownBlock with
      | none => rw [hg] at hx; simp at hx
      | some g => rw [hg] at hx; simp at hx; subst hx; exact own_block_lt hown hg
theorem Wr.mem {w : World} {B p : Nat} {F : List Nat} {l : List Nat} (h : Wr w B p F l) : p ∈ F := by
  obtain ⟨h8, hBp, h⟩ := h
  rcases h with ⟨rfl, rfl, hp⟩ | ⟨r, a, cap, hp, hr, hown, hBr, rfl⟩ <;> simp
/-- What was put from a later world on. -/
theorem Put.early {w0 w w' : World} {B p : Nat} {F l b : List Nat} (h : Put w w' B p F l b) (hf : Frm [] w0 w) : Put w0 w' B p F l b := by
  obtain ⟨F', hw, hF, hx⟩ := h
  refine ⟨F', hw, hf.trans hF (by simp) (fun x hx => .inl hx), fun x h => ?_⟩
  rcases hx x h with h1 | h1
  · exact .inl h1
  · right; have := hf.size; omega
/-- Two puts, one behind the other. -/
theorem Put.more {w w1 w2 : World} {B p : Nat} {F l b c : List Nat} (h : Put w w1 B p F l b) (h2 : ∀ F', Wr w1 B p F' (l ++ b) → Put w1 w2 B p F' (l ++ b) c) : Put w w2 B p F l (b ++ c) := by
  obtain ⟨F1, hw1, hf1, hx1⟩ := h
  obtain ⟨F2, hw2, hf2, hx2⟩ := h2 F1 hw1
  refine ⟨F2, by rw [← List.append_assoc]; exact hw2, hf1.trans hf2 (fun x h => h) hx1, fun x h => ?_⟩
  rcases hx2 x h with h1 | h1
  · exact hx1 x h1
  · right; have := hf1.size; omega

/-- The last k of eight bytes, as they lie in a block of their own. -/
theorem eight_bytes {w : World} {g k n d0 d1 d2 d3 d4 d5 d6 d7 : Nat} (off : Nat) (t : TypeId) (hd : be 8 n = [d0, d1, d2, d3, d4, d5, d6, d7]) (hb : (be 8 n).drop off = be k n) (h8 : ∀ c ∈ be k n, c < 256) (hl : (be k n).length = k) (hk : k + off = 8)
    (h : Whole w g t #[.int .u8 d0, .int .u8 d1, .int .u8 d2, .int .u8 d3, .int .u8 d4, .int .u8 d5, .int .u8 d6, .int .u8 d7]) : Bytes w (some ⟨g, off, none⟩) (be k n) := by
  refine ⟨h8, by omega, .inr ⟨g, off, rfl, fun i hi => ?_⟩⟩
  rw [h.cell, ← hb, hd]
  have hj : off + i < 8 := by omega
  have e : (List.drop off [d0, d1, d2, d3, d4, d5, d6, d7]).getD i 0 = [d0, d1, d2, d3, d4, d5, d6, d7].getD (off + i) 0 := by
    simp [List.getD, List.getElem?_drop]
  rw [e]
  generalize off + i = j at *
  match j, hj with
  | 0, _ | 1, _ | 2, _ | 3, _ | 4, _ | 5, _ | 6, _ | 7, _ => rfl

set_option maxHeartbeats 1000000 in
theorem number_any {w : World} {B p : Nat} {F : List Nat} {l : List Nat} (n k : Nat) (h : Wr w B p F l) (hk : k = 1 ∨ k = 2 ∨ k = 4 ∨ k = 8) (hn : n < 18446744073709551616) (hfit : l.length + k ≤ 140737488355328) :
    Calls Tryz.prog 87 #[.pointer (some ⟨p, 0, none⟩), .int .u64 n, .int .i64 k] w (PutEnd w B p F l (be k n)) := by
  have hplt := (h.lt p h.mem).2
  have H := Lib.hid h; clear h
  have hbd := be_drop k n (by omega)
  have hbl := be_length k n
  have hbL := be_lt k n
  have HD := Lib.hid hbd; clear hbd
  have HL := Lib.hid hbl; clear hbl
  have H8 := Lib.hid hbL; clear hbL
  have HFIT := Lib.hid hfit; clear hfit
  rcases hk with rfl | rfl | rfl | rfl
  all_goals
    go_enter Tryz.func87, Tryz.ntmps87
    go_wp2_with fail
    refine (digits_any n _ hn).mono ?_
    rintro e w1 ⟨d0, d1, d2, d3, d4, d5, d6, d7, hd, rfl, hb⟩
    have HDD := Lib.hid hd; clear hd
    have HB := Lib.hid hb; clear hb
    go_wp2_with fail
    have hB := HB.out
    have hf := (Frm.ofBelow hB).alloc (.cells #[.int .u8 d0, .int .u8 d1, .int .u8 d2, .int .u8 d3, .int .u8 d4, .int .u8 d5, .int .u8 d6, .int .u8 d7] 201)
    have hx : ∀ (o : Nat) (x : Addr), (some ⟨w1.heap.size, o, none⟩ : Option Addr) = some x → x.block ≠ p := by
      have := hB.size
      intro o x hx
      cases hx
      simp; omega
    refine (put_any (F := F) (l := l) (H.out.keep hf (by simp)) (eight_bytes _ _ HDD.out HD.out H8.out HL.out (by omega) (Whole.made _ _ _)) (fun _ => hx _) HL.out.symm (by simp) HFIT.out).mono ?_
    rintro e w' ⟨rfl, hput⟩
    have HP := Lib.hid (hput.early hf); clear hput hf
    go_wp2
    go_end0
    exact ⟨rfl, HP.out⟩
end Go.Proofs.YtcbpppdmkhpkkaaGreat
/- A string turned into bytes: where they lie. It speaks of no program. (Taken out of XPkWords.) -/
namespace Go.Proofs.YtcbpppdmkhpkkaaGreat
open Go.RowKit

theorem conv_frm (w : World) (e : TypeId) (s : ByteArray) : Frm [] w (Lib.bytesWorld w e s) :=
  ⟨rfl, rfl, rfl, by rw [Lib.bytesWorld_size]; omega, fun k hk _ => Lib.bytesWorld_at_old w e s k hk⟩
theorem conv_bytes (w : World) (e : TypeId) (s : ByteArray) (hs : s.size ≤ 9223372036854775807) : Bytes (Lib.bytesWorld w e s) (some ⟨w.heap.size, 0, none⟩) (strL s) := by
  refine ⟨strL_lt s, by rw [strL_length]; exact hs, .inr ⟨_, _, rfl, fun i hi => ?_⟩⟩
  rw [strL_length] at hi
  rw [Nat.zero_add, Lib.bytesWorld_cell w e s i hi]
  have h2 : i < s.data.toList.length := by simpa using hi
  simp [strL, List.getD, hi]
end Go.Proofs.YtcbpppdmkhpkkaaGreat
/- Contracts of Writer.U8, U16, U32, U64, Bytes, Text. -/
namespace Go.Proofs.YtcbpppdmkhpkkaaGreat
open Go.RowKit

theorem u8_any {w : World} {B p : Nat} {F : List Nat} {l : List Nat} (n : Nat) (h : Wr w B p F l) (hn : n < 256) (hfit : l.length + 1 ≤ 140737488355328) :
    Calls Tryz.prog 67 #[.pointer (some ⟨p, 0, none⟩), .int .u8 n] w (PutEnd w B p F l (be 1 n)) := by
  have H := Lib.hid h; clear h
  have HFIT := Lib.hid hfit; clear hfit
  go_enter Tryz.func67, Tryz.ntmps67
  go_wp2_with fail
  refine (number_any n 1 H.out (by omega) (by omega) HFIT.out).mono ?_
  rintro e w' ⟨rfl, hput⟩
  have HP := Lib.hid hput; clear hput
  go_wp2
  go_end0
  exact ⟨rfl, HP.out⟩

theorem u16_any {w : World} {B p : Nat} {F : List Nat} {l : List Nat} (n : Nat) (h : Wr w B p F l) (hn : n < 65536) (hfit : l.length + 2 ≤ 140737488355328) :
    Calls Tryz.prog 105 #[.pointer (some ⟨p, 0, none⟩), .int .u16 n] w (PutEnd w B p F l (be 2 n)) := by
  have H := Lib.hid h; clear h
  have HFIT := Lib.hid hfit; clear hfit
  go_enter Tryz.func105, Tryz.ntmps105
  go_wp2_with fail
  refine (number_any n 2 H.out (by omega) (by omega) HFIT.out).mono ?_
  rintro e w' ⟨rfl, hput⟩
  have HP := Lib.hid hput; clear hput
  go_wp2
  go_end0
  exact ⟨rfl, HP.out⟩

theorem u32_any {w : World} {B p : Nat} {F : List Nat} {l : List Nat} (n : Nat) (h : Wr w B p F l) (hn : n < 4294967296) (hfit : l.length + 4 ≤ 140737488355328) :
    Calls Tryz.prog 135 #[.pointer (some ⟨p, 0, none⟩), .int .u32 n] w (PutEnd w B p F l (be 4 n)) := by
  have H := Lib.hid h; clear h
  have HFIT := Lib.hid hfit; clear hfit
  go_enter Tryz.func135, Tryz.ntmps135
  go_wp2_with fail
  refine (number_any n 4 H.out (by omega) (by omega) HFIT.out).mono ?_
  rintro e w' ⟨rfl, hput⟩
  have HP := Lib.hid hput; clear hput
  go_wp2
  go_end0
  exact ⟨rfl, HP.out⟩

theorem u64_any {w : World} {B p : Nat} {F : List Nat} {l : List Nat} (n : Nat) (h : Wr w B p F l) (hn : n < 18446744073709551616) (hfit : l.length + 8 ≤ 140737488355328) :
    Calls Tryz.prog 54 #[.pointer (some ⟨p, 0, none⟩), .int .u64 n] w (PutEnd w B p F l (be 8 n)) := by
  have H := Lib.hid h; clear h
  have HFIT := Lib.hid hfit; clear hfit
  go_enter Tryz.func54, Tryz.ntmps54
  go_wp2_with fail
  refine (number_any n 8 H.out (by omega) (by omega) HFIT.out).mono ?_
  rintro e w' ⟨rfl, hput⟩
  have HP := Lib.hid hput; clear hput
  go_wp2
  go_end0
  exact ⟨rfl, HP.out⟩

theorem Put.then {w w1 w2 : World} {B p : Nat} {F F1 l b c : List Nat} (hf1 : Frm F w w1) (hx1 : ∀ x ∈ F1, x ∈ F ∨ w.heap.size ≤ x) (h2 : Put w1 w2 B p F1 (l ++ b) c) : Put w w2 B p F l (b ++ c) := by
  obtain ⟨F2, hw2, hf2, hx2⟩ := h2
  refine ⟨F2, by rw [← List.append_assoc]; exact hw2, hf1.trans hf2 (fun x h => h) hx1, fun x h => ?_⟩
  rcases hx2 x h with h1 | h1
  · exact hx1 x h1
  · right; have := hf1.size; omega

/-- '[]byte(s)': the world behind it; what it reads as. -/
theorem bytes_any {w : World} {B p : Nat} {F : List Nat} {l : List Nat} {a : Option Addr} {n cap : Nat} {b : List Nat} (h : Wr w B p F l)
    (hb : Bytes w a b) (hap : b ≠ [] → ∀ x, a = some x → x.block ∉ F) (hn : n = b.length) (hnil : a = none → cap = 0) (hn32 : n < 4294967296) (hfit : l.length + 4 + n ≤ 140737488355328) :
    Calls Tryz.prog 106 #[.pointer (some ⟨p, 0, none⟩), .slice a n cap] w (PutEnd w B p F l (be 4 n ++ b)) := by
  have HS := Lib.hid h; clear h
  have HFIT := Lib.hid hfit; clear hfit
  have HB := Lib.hid hb; clear hb
  have HA := Lib.hid hap; clear hap
  have HN := Lib.hid hn; clear hn
  have HNIL := Lib.hid hnil; clear hnil
  go_enter Tryz.func106, Tryz.ntmps106
  go_wp2_with fail
  refine (u32_any n HS.out hn32 (by have := HFIT.out; omega)).mono ?_
  rintro e w1 ⟨rfl, F1, hw1, hf1, hF1⟩
  have HW1 := Lib.hid hw1; clear hw1
  have HX1 := Lib.hid hf1; clear hf1
  have HF1 := Lib.hid hF1; clear hF1
  go_wp2_with fail
  refine (put_any HW1.out (HX1.out.bytes' HB.out HA.out) (fun hne x hx e => HA.out hne x hx (by rw [e]; exact HS.out.mem)) HN.out HNIL.out (by rw [List.length_append, be_length]; have := HFIT.out; omega)).mono ?_
  rintro e w2 ⟨rfl, hput⟩
  have HP := Lib.hid (Put.then HX1.out HF1.out hput); clear hput
  go_wp2
  go_end0
  exact ⟨rfl, HP.out⟩

end Go.Proofs.YtcbpppdmkhpkkaaGreat
/- Contract of Awake (the fixed facts of layer 2): it answers true and writes nothing that was there. -/
namespace Go.Proofs.YtcbpppdmkhpkkaaGreat
open Go.RowKit

/-- A Writer that was just made. -/
theorem Wr.zero (w : World) : Wr (w.alloc (.cells #[.pointer none, .int .i64 0] 120)) w.heap.size w.heap.size [w.heap.size] [] :=
  ⟨by simp, Nat.le_refl _, .inl ⟨rfl, rfl, Whole.made _ _ _⟩⟩
end Go.Proofs.YtcbpppdmkhpkkaaGreat
/- Plain arithmetic of the CRC-32C register over natural numbers: the step, bytes, lists of bytes, and that it is linear over exclusive-or. No condition. -/
namespace Go.Proofs.YtcbpppdmkhpkkaaGreat

/-- One step of the register. -/
def stp (x : Nat) : Nat := if x % 2 = 1 then x / 2 ^^^ 2197175160 else x / 2
/-- So many steps. -/
def stps : Nat → Nat → Nat
  | 0, x => x
  | n + 1, x => stps n (stp x)
/-- A byte more. -/
def fed (x c : Nat) : Nat := stps 8 (x ^^^ c)
/-- A list of bytes more. -/
def fedAll (x : Nat) : List Nat → Nat
  | [] => x
  | c :: r => fedAll (fed x c) r
def inv32 (x : Nat) : Nat := x ^^^ 4294967295
def moreN (s : Nat) (l : List Nat) : Nat := inv32 (fedAll (inv32 s) l)
def sumN (l : List Nat) : Nat := moreN 0 l

theorem xor_lt {a b : Nat} (ha : a < 4294967296) (hb : b < 4294967296) : a ^^^ b < 4294967296 :=
  Nat.xor_lt_two_pow (n := 32) ha hb
theorem stp_lt {x : Nat} (h : x < 4294967296) : stp x < 4294967296 := by
  unfold stp; split
  · exact xor_lt (by omega) (by omega)
  · omega
theorem stps_lt (n : Nat) : ∀ {x : Nat}, x < 4294967296 → stps n x < 4294967296 := by
  induction n with
  | zero => intro x h; exact h
  | succ n ih => intro x h; exact ih (stp_lt h)
theorem fed_lt {x c : Nat} (hx : x < 4294967296) (hc : c < 256) : fed x c < 4294967296 :=
  stps_lt 8 (xor_lt hx (by omega))
theorem fedAll_lt (l : List Nat) : ∀ {x : Nat}, x < 4294967296 → (∀ c ∈ l, c < 256) → fedAll x l < 4294967296 := by
  induction l with
  | nil => intro x h _; exact h
  | cons c r ih => intro x h hc; exact ih (fed_lt h (hc c (by simp))) (fun d hd => hc d (by simp [hd]))
theorem inv32_lt {x : Nat} (h : x < 4294967296) : inv32 x < 4294967296 := xor_lt h (by omega)
theorem stps_succ (n : Nat) : ∀ x, stps (n + 1) x = stp (stps n x) := by
  induction n with
  | zero => intro x; rfl
  | succ n ih => intro x; show stps (n + 1) (stp x) = _; rw [ih]; rfl
theorem fedAll_append (a : List Nat) : ∀ (x : Nat) (b : List Nat), fedAll x (a ++ b) = fedAll (fedAll x a) b := by
  induction a with
  | nil => intro x b; rfl
  | cons c r ih => intro x b; exact ih _ b
theorem fedAll_snoc (x : Nat) (a : List Nat) (c : Nat) : fedAll x (a ++ [c]) = fed (fedAll x a) c := by rw [fedAll_append]; rfl
theorem moreN_lt {s : Nat} {l : List Nat} (hs : s < 4294967296) (hl : ∀ c ∈ l, c < 256) : moreN s l < 4294967296 :=
  inv32_lt (fedAll_lt l (inv32_lt hs) hl)
theorem sumN_lt {l : List Nat} (hl : ∀ c ∈ l, c < 256) : sumN l < 4294967296 := moreN_lt (by omega) hl

/-! ### Linear over exclusive-or -/
/-- Two lists of one length, place by place. -/
def xorL : List Nat → List Nat → List Nat
  | a :: r, b :: s => (a ^^^ b) :: xorL r s
  | _, _ => []
end Go.Proofs.YtcbpppdmkhpkkaaGreat
/- Contract of crc.feed: for every register and byte it answers the register behind one byte more, and writes nothing. No condition but that the two are numbers of their kinds. -/
namespace Go.Proofs.YtcbpppdmkhpkkaaGreat
open Go.RowKit

theorem odd_test {y : Nat} (hy : y < 4294967296) (h : y % 2 = 1) : (bits .and .u32 (y : Int) 1 == 1) = true := by
  have e := u32_and_nat y 1 hy (by omega)
  have : bits .and .u32 (y : Int) 1 = 1 := by rw [show (1 : Int) = ((1 : Nat) : Int) from rfl, e, nat_mask1, h]
  simp [this]
theorem even_test {y : Nat} (hy : y < 4294967296) (h : y % 2 = 0) : (bits .and .u32 (y : Int) 1 == 1) = false := by
  have e := u32_and_nat y 1 hy (by omega)
  have : bits .and .u32 (y : Int) 1 = 0 := by rw [show (1 : Int) = ((1 : Nat) : Int) from rfl, e, nat_mask1, h]; rfl
  simp [this]
theorem half (y : Nat) : (y : Int) / 2 = ((y / 2 : Nat) : Int) := by omega
theorem half_pol {y : Nat} (hy : y < 4294967296) : bits .xor .u32 ((y : Int) / 2) 2197175160 = ((y / 2 ^^^ 2197175160 : Nat) : Int) := by
  rw [half, show (2197175160 : Int) = ((2197175160 : Nat) : Int) from rfl]
  exact u32_xor_nat _ _ (by omega) (by omega)
theorem stp_even {y : Nat} (h : y % 2 = 0) : stp y = y / 2 := by unfold stp; rw [if_neg (by omega)]
theorem stp_odd {y : Nat} (h : y % 2 = 1) : stp y = y / 2 ^^^ 2197175160 := by unfold stp; rw [if_pos h]

theorem feed_any (x c : Nat) (w : World) (hx : x < 4294967296) (hc : c < 256) :
    Calls Tryz.prog 159 #[.int .u32 x, .int .u8 c] w fun e w' => e = .returned (.int .u32 (fed x c : Nat)) ∧ w = w' := by
  have h0 := u32_xor_nat x c hx (by omega)
  have hlt : x ^^^ c < 4294967296 := xor_lt hx (by omega)
  go_enter Tryz.func159, Tryz.ntmps159
  go_wp2
  go_loop [0, 9] (fun r i => ∃ k : Nat, k ≤ 8 ∧ i = .int .i64 k ∧ r = .int .u32 (stps k (x ^^^ c) : Nat)) (fun _ i => 8 - (intOf i).toNat)
  case atStart => exact ⟨0, Nat.zero_le _, rfl, rfl⟩
  case round =>
    obtain ⟨k, hk, rfl, rfl⟩ := hrel
    have hs := stps_succ k (x ^^^ c)
    have hl := stps_lt k hlt
    clear h0 hlt
    obtain ⟨y, hy⟩ : ∃ y, y = stps k (x ^^^ c) := ⟨_, rfl⟩
    rw [← hy] at hs hl
    rw [← hy]
    have HY := Lib.hid hy; clear hy
    have HS := Lib.hid hs; clear hs
    rcases Nat.mod_two_eq_zero_or_one y with hp | hp
    · have ht := even_test hl hp
      have HE := Lib.hid (stp_even hp); clear hp
      go_wp2
      · go_round
        case rel => exact ⟨k + 1, by omega, by go_num, same_int (by rw [HS.out, HE.out, half])⟩
        case measure => simp [intOf]; omega
      · go_ret
        obtain rfl : k = 8 := by omega
        exact ⟨ret_same (by rw [HY.out]; rfl), rfl⟩
    · have ht := odd_test hl hp
      have HE := Lib.hid (stp_odd hp); clear hp
      go_wp2
      · go_round
        case rel => exact ⟨k + 1, by omega, by go_num, same_int (by rw [HS.out, HE.out, half_pol hl])⟩
        case measure => simp [intOf]; omega
      · go_ret
        obtain rfl : k = 8 := by omega
        exact ⟨ret_same (by rw [HY.out]; rfl), rfl⟩
end Go.Proofs.YtcbpppdmkhpkkaaGreat
/- Contracts of crc.More and crc.Sum: for every slice of bytes, nil or not, they answer the register's sum by its definition, and write nothing. Conditions: what the slice reads as. -/
namespace Go.Proofs.YtcbpppdmkhpkkaaGreat
open Go.RowKit

theorem fedAll_take (x : Nat) {l : List Nat} {i : Nat} (h : i < l.length) : fedAll x (l.take (i + 1)) = fed (fedAll x (l.take i)) (l.getD i 0) := by
  rw [take_snoc_getD h, fedAll_snoc]
theorem not_u32 {x : Nat} (h : x < 4294967296) : bits .xor .u32 IntKind.u32.max (x : Int) = ((inv32 x : Nat) : Int) := by
  have := u32_xor_nat 4294967295 x (by omega) h
  rw [show IntKind.u32.max = ((4294967295 : Nat) : Int) from rfl, this]
  unfold inv32; rw [Nat.xor_comm]

theorem more_any (s : Nat) (a : Option Addr) (n cap : Nat) (l : List Nat) (w : World) (hs : s < 4294967296) (hl : Bytes w a l) (hn : n = l.length) :
    Calls Tryz.prog 154 #[.int .u32 s, .slice a n cap] w fun e w' => e = .returned (.int .u32 (moreN s l : Nat)) ∧ w = w' := by
  obtain ⟨h8, hm, hcell⟩ := hl
  have hnm : n ≤ 9223372036854775807 := by omega
  have H8 := Lib.hid h8
  have hi0 := not_u32 hs
  have hil := inv32_lt hs
  have hend : fedAll (inv32 s) (l.take n) = fedAll (inv32 s) l := by rw [hn, List.take_length]
  have HE := Lib.hid hend; clear hend
  have HN := Lib.hid hn; clear hn
  have HC := Lib.hid hcell; clear hcell
  clear h8 hm
  go_enter Tryz.func154, Tryz.ntmps154
  go_wp2
  go_loop [5, 12] (fun r i => ∃ k : Nat, k ≤ n ∧ i = .int .i64 k ∧ r = .int .u32 (fedAll (inv32 s) (l.take k) : Nat)) (fun _ i => n - (intOf i).toNat)
  case atStart => exact ⟨0, Nat.zero_le _, rfl, rfl⟩
  case round =>
    obtain ⟨k, hk, rfl, rfl⟩ := hrel
    clear hi0
    have hx := fedAll_lt (l.take k) hil (take_lt H8.out k)
    have hc := getD_lt H8.out k
    by_cases hlt : k < n
    · have hst := fedAll_take (inv32 s) (l := l) (i := k) (by rw [← HN.out]; exact hlt)
      obtain ⟨b, off, rfl, hcl⟩ : ∃ b off, a = some ⟨b, off, none⟩ ∧ w.cell? ⟨b, off + k, none⟩ = some (.int .u8 (l.getD k 0 : Nat)) := by
        rcases HC.out with h | ⟨b, off, h, hh⟩
        · have := HN.out; rw [h] at this; simp at this; omega
        · exact ⟨b, off, h, hh k (by rw [← HN.out]; exact hlt)⟩
      obtain ⟨x, hx'⟩ : ∃ x, x = fedAll (inv32 s) (l.take k) := ⟨_, rfl⟩
      obtain ⟨c, hc'⟩ : ∃ c, c = l.getD k 0 := ⟨_, rfl⟩
      rw [← hx', ← hc'] at hst
      rw [← hx'] at hx ⊢
      rw [← hc'] at hc hcl
      have HX := Lib.hid hx'; clear hx'
      have HC' := Lib.hid hc'; clear hc'
      have HS := Lib.hid hst; clear hst
      go_wp2_with (go_at_call 159; refine (feed_any _ _ _ hx hc).mono ?_; rintro e w' ⟨rfl, rfl⟩)
      go_round
      case rel => exact ⟨k + 1, by omega, by go_num, same_int (by rw [HS.out])⟩
      case measure => simp [intOf]; omega
    · obtain rfl : k = n := by omega
      have hi1 := not_u32 hx
      go_wp2
      go_ret
      exact ⟨ret_same (by rw [HE.out]; rfl), rfl⟩

theorem sum_any (a : Option Addr) (n cap : Nat) (l : List Nat) (w : World) (hl : Bytes w a l) (hn : n = l.length) :
    Calls Tryz.prog 136 #[.slice a n cap] w fun e w' => e = .returned (.int .u32 (sumN l : Nat)) ∧ w = w' := by
  have HN := Lib.hid hn; clear hn
  have HL := Lib.hid hl; clear hl
  go_enter Tryz.func136, Tryz.ntmps136
  go_wp2_with (go_at_call 154; refine (more_any 0 _ _ _ l _ (by omega) HL.out HN.out).mono ?_; rintro e w' ⟨rfl, rfl⟩)
  go_ret
  exact ⟨rfl, rfl⟩
end Go.Proofs.YtcbpppdmkhpkkaaGreat
/- Contract of the reference's Sum (package mailcoachref01): for every slice of bytes, nil or not, it answers the register's sum by its definition, and writes nothing. Conditions: what the slice reads as. -/
namespace Go.Proofs.YtcbpppdmkhpkkaaGreat
open Go.RowKit

/-- The three contracts, their answer under another name. -/
theorem sum_eq (a : Option Addr) (n cap : Nat) (l : List Nat) (w : World) (r : Nat) (hr : sumN l = r) (hl : Bytes w a l) (hn : n = l.length) :
    Calls Tryz.prog 136 #[.slice a n cap] w fun e w' => e = .returned (.int .u32 (r : Nat)) ∧ w = w' := by
  subst hr; exact sum_any a n cap l w hl hn
end Go.Proofs.YtcbpppdmkhpkkaaGreat
/- Contract of Frame: bytes with how many they are, and their sum, ahead. -/
namespace Go.Proofs.YtcbpppdmkhpkkaaGreat
open Go.RowKit

/-- A frame's bytes. -/
def fr (l : List Nat) : List Nat := be 4 l.length ++ be 4 (sumN l) ++ l
theorem fr_length (l : List Nat) : (fr l).length = l.length + 8 := by simp [fr, be_length]; omega
theorem fr_lt {l : List Nat} (h : ∀ c ∈ l, c < 256) : ∀ c ∈ fr l, c < 256 := by
  intro c hc
  simp only [fr, List.mem_append] at hc
  rcases hc with (h1 | h1) | h1
  · exact be_lt _ _ c h1
  · exact be_lt _ _ c h1
  · exact h c h1
theorem own_base {w : World} {base base' : Nat} {e : TypeId} {size n : Nat} {v : Value} {xs : List Value} (h : w.ownsRow base e size v n xs) (hb : base' ≤ base) : w.ownsRow base' e size v n xs := by
  refine ⟨h.1, ?_⟩
  rcases h.2 with h2 | ⟨g, cap, cur, hv, hg, r⟩
  · exact .inl h2
  · exact .inr ⟨g, cap, cur, hv, by omega, r⟩
theorem Frm.fresh {w0 w w' : World} {F : List Nat} (h0 : Frm [] w0 w) (hF : ∀ x ∈ F, w0.heap.size ≤ x) (h : Frm F w w') : Frm [] w0 w' := h0.trans h (by simp) (fun x hx => .inr (hF x hx))

theorem frame_long (a : Option Addr) (n cap : Nat) (w : World) (h : 4096 < n) (hn : n ≤ 9223372036854775807) :
    Calls Tryz.prog 103 #[.slice a n cap] w fun e w' => e = .returned (.tuple #[.slice none 0 0, .int .i64 3]) ∧ w = w' := by
  go_enter Tryz.func103, Tryz.ntmps103
  go_wp2
  go_ret2
  exact ⟨rfl, rfl⟩

/-- What Frame hands back. -/
def Framed (w : World) (l : List Nat) (e : Ending) (w' : World) : Prop :=
  ∃ a' cap', e = .returned (.tuple #[.slice a' (fr l).length cap', .int .i64 0]) ∧ w'.ownsRow w.heap.size 5 1 (.slice a' (fr l).length cap') (fr l).length ((fr l).map u8v) ∧ Frm [] w w'

set_option maxHeartbeats 1000000 in
theorem frame_ok (a : Option Addr) (n cap : Nat) (l : List Nat) (w : World) (hl : Bytes w a l) (hn : n = l.length) (hnil : a = none → cap = 0) (h : n ≤ 4096) :
    Calls Tryz.prog 103 #[.slice a n cap] w (Framed w l) := by
  have hsl := sumN_lt hl.1
  obtain ⟨s, hs⟩ : ∃ s, s = sumN l := ⟨_, rfl⟩
  rw [← hs] at hsl
  have HS := Lib.hid hs; clear hs
  have HL := Lib.hid hl; clear hl
  have HN := Lib.hid hn; clear hn
  have HNIL := Lib.hid hnil; clear hnil
  go_enter Tryz.func103, Tryz.ntmps103
  go_wp2_with fail
  refine (u32_any n (Wr.zero w) (by omega) (by simp)).mono ?_
  rintro e w1 ⟨rfl, F1, hw1, hf1, hx1⟩
  have HW1 := Lib.hid hw1; clear hw1
  have HB1 := Lib.hid (((Frm.refl [] w).alloc _).fresh (by simp) hf1); clear hf1 hx1
  go_wp2_with fail
  refine (sum_eq _ _ _ l _ s HS.out.symm (HB1.out.bytes HL.out (by simp)) HN.out).mono ?_
  rintro e w' ⟨rfl, rfl⟩
  go_wp2_with fail
  refine (u32_any s HW1.out hsl (by simp [be_length])).mono ?_
  rintro e w2 ⟨rfl, F2, hw2, hf2, hx2⟩
  have HW2 := Lib.hid hw2; clear hw2
  have HB2 := Lib.hid (HB1.out.fresh (fun x hx => (HW1.out.lt x hx).1) hf2); clear hf2 hx2
  go_wp2_with fail
  refine (put_any HW2.out (HB2.out.bytes HL.out (by simp)) (fun hne x hx => by have := bytes_lt HL.out hne x hx; omega) HN.out HNIL.out (by simp [be_length]; omega)).mono ?_
  rintro e w3 ⟨rfl, F3, hw3, hf3, hx3⟩
  have HW3 := Lib.hid hw3; clear hw3
  have HB3 := Lib.hid (HB2.out.fresh (fun x hx => (HW2.out.lt x hx).1) hf3); clear hf3 hx3
  go_wp2_with fail
  have hfr : [] ++ be 4 n ++ be 4 s ++ l = fr l := by rw [HS.out, HN.out]; rfl
  have hw3 := HW3.out
  rw [hfr] at hw3
  refine (done_any hw3 (by rw [fr_length]; have := HN.out; omega)).mono ?_
  rintro e w4 ⟨a4, cap4, rfl, ho4, hf4⟩
  have HO4 := Lib.hid ho4; clear ho4
  have HF4 := Lib.hid (HB3.out.trans hf4 (U := []) (by simp) (by simp)); clear hf4
  have HSZ := Lib.hid HB3.out.size
  clear hfr hw3
  go_wp2
  go_ret2
  exact ⟨a4, cap4, rfl, own_base HO4.out HSZ.out, HF4.out⟩
end Go.Proofs.YtcbpppdmkhpkkaaGreat
/- Slices cut out of a slice of bytes: the values written out, and what they read as. They speak of no program. -/
namespace Go.Proofs.YtcbpppdmkhpkkaaGreat
open Go.RowKit

/-- The address of a piece from place lo on. -/
def cutAt (a : Option Addr) (cap lo : Nat) : Option Addr := if cap = lo then a else a.map (·.add lo)

section
variable {P : Program} {t e : TypeId}
theorem run_cut_lh (ht : P.underlying t = some (.slice e)) (hz : ∀ w, (Go.sizeOf e).run P w = .ok 1 w) (w : World) (a : Option Addr) (n cap lo hi : Nat) (l h : Int) (hl : l = (lo : Nat)) (hh : h = (hi : Nat)) (h1 : lo ≤ hi) (h2 : hi ≤ cap) (kl : IntKind := .i64) (kh : IntKind := .i64) :
    (Instr.slice t (.slice a n cap) (some (.int kl l)) (some (.int kh h)) none).run P w = .ok (.slice (cutAt a cap lo) (hi - lo) (cap - lo)) w := by
  subst hl; subst hh
  have ht' : P.underlying t = some (.slice (P.elem t)) := by simp [Program.elem, ht]
  have he : P.elem t = e := by simp [Program.elem, ht]
  rw [run_slice_lh w t _ _ _ ht' kl kh _ _ (by omega) (by omega) (by omega), he, hz]
  simp [Result.andThen, sliced, cutAt]
theorem run_cut_l (ht : P.underlying t = some (.slice e)) (hz : ∀ w, (Go.sizeOf e).run P w = .ok 1 w) (w : World) (a : Option Addr) (n cap lo : Nat) (l : Int) (hl : l = (lo : Nat)) (h1 : lo ≤ n) (kl : IntKind := .i64) :
    (Instr.slice t (.slice a n cap) (some (.int kl l)) none none).run P w = .ok (.slice (cutAt a cap lo) (n - lo) (cap - lo)) w := by
  subst hl
  have ht' : P.underlying t = some (.slice (P.elem t)) := by simp [Program.elem, ht]
  have he : P.elem t = e := by simp [Program.elem, ht]
  rw [run_slice_l w t _ _ _ ht' kl _ (by omega) (by omega), he, hz]
  simp [Result.andThen, sliced, cutAt]
end
theorem cut_bytes {w : World} {a : Option Addr} {cap : Nat} {l : List Nat} (h : Bytes w a l) (hc : l.length ≤ cap) (lo : Nat) : Bytes w (cutAt a cap lo) (l.drop lo) := by
  unfold cutAt
  by_cases hlo : cap = lo
  · rw [if_pos hlo, List.drop_eq_nil_of_le (by omega)]; exact Bytes.nil _
  · rw [if_neg hlo]; exact h.drop lo
theorem cut_none {a : Option Addr} {cap lo : Nat} (h : a = none → cap = 0) (hc : cutAt a cap lo = none) : cap - lo = 0 := by
  unfold cutAt at hc
  by_cases hlo : cap = lo
  · omega
  · rw [if_neg hlo] at hc
    have := h (by simpa using hc)
    omega
theorem cut_block {a : Option Addr} {cap lo : Nat} {x : Addr} (hc : cutAt a cap lo = some x) : ∃ y, a = some y ∧ x.block = y.block := by
  unfold cutAt at hc
  by_cases hlo : cap = lo
  · rw [if_pos hlo] at hc; exact ⟨x, hc, rfl⟩
  · rw [if_neg hlo] at hc
    cases a with
    | none => cases hc
    | some y =>
      simp at hc
      subst hc
      exact ⟨y, rfl, by unfold Addr.add; split <;> rfl⟩
end Go.Proofs.YtcbpppdmkhpkkaaGreat
/- Contract of Unframe: the frame with which bytes begin, and what is left; or which error. -/
namespace Go.Proofs.YtcbpppdmkhpkkaaGreat
open Go.RowKit

theorem enters_unframe (args : Array Value) (w : World) : (callFunc 152 args).run Tryz.prog w = .ok (.enter 152 args) w := by kernel_rfl

/-- What the reader of a frame's head leaves: the two numbers, in their variables. -/
def Head (w0 : World) (zb sb : Nat) (l : List Nat) (w2 : World) (rest : List Nat) : Prop :=
  rest = l.drop 8 ∧ Frm [zb, sb] w0 w2 ∧ Whole w2 zb 213 #[.int .u32 (val (l.take 4) : Nat)] ∧ Whole w2 sb 213 #[.int .u32 (val ((l.drop 4).take 4) : Nat)]

theorem head_ret (zb sb : Nat) (x y : Value) (w w1 : World) (rb cb db : Nat) (l : List Nat) (h : Told w w1 rb cb db l) (hz : Whole w zb 213 #[x]) (hs : Whole w sb 213 #[y]) (hzs : zb ≠ sb) (hl : 8 ≤ l.length) :
    Calls Tryz.prog 152 (#[.pointer (some ⟨rb, 0, none⟩)] ++ #[.pointer (some ⟨zb, 0, none⟩), .pointer (some ⟨sb, 0, none⟩)]) w1 (ByRet w w1 rb cb db (Head w zb sb l)) := by
  have H := Lib.hid h; clear h
  have HZ := Lib.hid hz; clear hz
  have HS := Lib.hid hs; clear hs
  show Calls Tryz.prog 152 #[.pointer (some ⟨rb, 0, none⟩), .pointer (some ⟨zb, 0, none⟩), .pointer (some ⟨sb, 0, none⟩)] w1 _
  go_enter Tryz.func152, Tryz.ntmps152
  go_wp2_with fail
  refine (ru32_ok H.out.rdr (by omega) H.out.dlt).mono ?_
  rintro e w2 ⟨rfl, hr2, hf2⟩
  have HR2 := Lib.hid hr2; clear hr2
  have HF2 := Lib.hid hf2; clear hf2
  go_wp2_with fail
  refine (ru32_ok HR2.out (by simp; omega) (Nat.lt_of_lt_of_le H.out.dlt HF2.out.size)).mono ?_
  rintro e w3 ⟨rfl, hr3, hf3⟩
  have h := H.out
  have zlt := HZ.out.lt
  have slt := HS.out.lt
  have hge := h.hr
  have hgc := h.hc
  have hgd := h.hd
  have hf13 : Frm [rb] w1 w3 := HF2.out.trans hf3 (fun x hx => hx) (fun x hx => .inl hx)
  have hf03 : Frm [] w w3 := h.frm.trans hf13 (by simp) (fun x hx => by simp at hx; subst hx; exact .inr hge)
  have hz3 := hf03.whole HZ.out (by simp)
  have hs3 := hf03.whole HS.out (by simp)
  have z0 := hz3.cell 0
  have z1 := hz3.free 0
  obtain ⟨v1, hv1⟩ : ∃ v, v = val (l.take 4) := ⟨_, rfl⟩
  obtain ⟨v2, hv2⟩ : ∃ v, v = val ((l.drop 4).take 4) := ⟨_, rfl⟩
  rw [← hv1, ← hv2]
  have s0 := (hs3.other (p := ⟨zb, 0, none⟩) (Ne.symm hzs) (.int .u32 (v1 : Nat))).cell 0
  have s1 := (hs3.other (p := ⟨zb, 0, none⟩) (Ne.symm hzs) (.int .u32 (v1 : Nat))).free 0
  simp at z0 s0
  have hzz := (hz3.put 0 (.int .u32 (v1 : Nat))).other (p := ⟨sb, 0, none⟩) hzs (.int .u32 (v2 : Nat))
  have hss := (hs3.other (p := ⟨zb, 0, none⟩) (Ne.symm hzs) (.int .u32 (v1 : Nat))).put 0 (.int .u32 (v2 : Nat))
  have hfr : Frm [zb, sb] w ((w3.setCell ⟨zb, 0, none⟩ (.int .u32 (v1 : Nat))).setCell ⟨sb, 0, none⟩ (.int .u32 (v2 : Nat))) := ((hf03.weak (by simp)).setCell (.inl (by simp)) _).setCell (.inl (by simp)) _
  have hfr2 : Frm [rb, zb, sb] w1 ((w3.setCell ⟨zb, 0, none⟩ (.int .u32 (v1 : Nat))).setCell ⟨sb, 0, none⟩ (.int .u32 (v2 : Nat))) := ((hf13.weak (fun x hx => .inl (by simp at hx; simp [hx]))).setCell (.inl (by simp)) _).setCell (.inl (by simp)) _
  have hk : Frm [zb, sb] w3 ((w3.setCell ⟨zb, 0, none⟩ (.int .u32 (v1 : Nat))).setCell ⟨sb, 0, none⟩ (.int .u32 (v2 : Nat))) := ((Frm.refl _ _).setCell (.inl (by simp)) _).setCell (.inl (by simp)) _
  have hrr := hr3.keep hk (by simp; omega) (by simp; omega) (by simp; omega)
  rw [List.drop_drop] at hrr
  have FIN : ByRet w w1 rb cb db (Head w zb sb l) (.returned (.tuple #[])) ((w3.setCell ⟨zb, 0, none⟩ (.int .u32 (v1 : Nat))).setCell ⟨sb, 0, none⟩ (.int .u32 (v2 : Nat))) :=
    ⟨rfl, l.drop 8, [rb, zb, sb], ⟨rfl, hfr, by rw [← hv1]; simpa using hzz, by rw [← hv2]; simpa using hss⟩, hrr, hfr2, by simp; omega⟩
  have FH := Lib.hid FIN
  clear FIN hrr hk hfr hfr2 hzz hss hf13 hf03 hz3 hs3 hr3 hf3 hv1 hv2 h
  go_wp2
  go_end0
  exact FH.out

theorem head_short (zb sb : Nat) (w w1 : World) (rb cb db : Nat) (l : List Nat) (h : Told w w1 rb cb db l) (hl : l.length < 8) :
    Calls Tryz.prog 152 (#[.pointer (some ⟨rb, 0, none⟩)] ++ #[.pointer (some ⟨zb, 0, none⟩), .pointer (some ⟨sb, 0, none⟩)]) w1 (ByThrow w w1 rb cb 4 (Frm [] w)) := by
  have H := Lib.hid h; clear h
  show Calls Tryz.prog 152 #[.pointer (some ⟨rb, 0, none⟩), .pointer (some ⟨zb, 0, none⟩), .pointer (some ⟨sb, 0, none⟩)] w1 _
  have FIN : Hid (∀ w2, Whole w2 cb 184 #[.bool false, .int .i64 4] → Frm [rb, cb] w1 w2 → ByThrow w w1 rb cb 4 (Frm [] w) (.panicked [{ v := .iface 182 (.pointer (some ⟨cb, 0, none⟩)), recovered := false }]) w2) := by
    intro w2 h1 h2
    have h := H.out
    exact ⟨rfl, [rb, cb], h.frm.trans h2 (by simp) (fun x hx => by have := h.hr; have := h.hc; simp at hx; right; rcases hx with rfl | rfl <;> assumption), h1, h2, by simp⟩
  by_cases h4 : l.length < 4
  · go_enter Tryz.func152, Tryz.ntmps152
    go_wp2_with fail
    refine (ru32_short H.out.rdr h4).mono ?_
    rintro e w2 ⟨rfl, h1, h2⟩
    exact ⟨rfl, FIN.out _ h1 h2⟩
  · go_enter Tryz.func152, Tryz.ntmps152
    go_wp2_with fail
    refine (ru32_ok H.out.rdr (by omega) H.out.dlt).mono ?_
    rintro e w2 ⟨rfl, hr2, hf2⟩
    have HR2 := Lib.hid hr2; clear hr2
    go_wp2_with fail
    refine (ru32_short HR2.out (by simp; omega)).mono ?_
    rintro e w3 ⟨rfl, h1, h2⟩
    exact ⟨rfl, FIN.out _ h1 (hf2.trans h2 (by simp) (fun x hx => .inl hx))⟩
/- == unframe -/
theorem size_byte (w : World) : (Go.sizeOf 5).run Tryz.prog w = .ok 1 w := by kernel_rfl
theorem flip_quiet {P : Program} {f : FuncId} {args : Array Value} {w : World} {n : Nat} {v : Value}
    (h : Calls P f args (w.drewN n) fun e w' => e = .returned v ∧ w.drewN n = w') : Calls P f args (w.drewN n) fun e w'' => e = .returned v ∧ ∃ m, w'' = w.drewN m :=
  Calls.quiet_of_same (h.mono fun _ _ ⟨he, hm⟩ => ⟨he, hm.symm⟩)

/-- Unframe answers an error. -/
def UnfErr (w : World) (c : Int) (e : Ending) (w' : World) : Prop := e = .returned (.tuple #[.slice none 0 0, .slice none 0 0, .int .i64 c]) ∧ Frm [] w w'
/-- A slice that was cloned. -/
structure PkCl (w : World) (l : List Nat) (a : Option Addr) (cap : Nat) : Prop where
  bytes : Bytes w a l
  nil : a = none → cap = 0
  le : l.length ≤ cap
  fits : cap ≤ 9223372036854775807
  lt : ∀ x, a = some x → x.block < w.heap.size
theorem PkCl.keep {w w' : World} {l : List Nat} {a : Option Addr} {cap : Nat} (h : PkCl w l a cap) (hf : Frm [] w w') : PkCl w' l a cap :=
  ⟨hf.bytes h.bytes (by simp), h.nil, h.le, h.fits, fun x hx => Nat.lt_of_lt_of_le (h.lt x hx) hf.size⟩
theorem own_cl {w' : World} {base : Nat} {l : List Nat} {a : Option Addr} {cap : Nat} (h : w'.ownsRow base 5 1 (.slice a l.length cap) l.length (l.map u8v)) (h8 : ∀ c ∈ l, c < 256) : PkCl w' l a cap := by
  have hb := bytes_of_own h h8
  have hc : l.length ≤ cap ∧ cap ≤ 9223372036854775807 := by
    rcases h.2 with ⟨h, h0⟩ | ⟨g, cap, cur, hv, _, _, hnc, hm, _⟩
    · injection h with _ _ h; omega
    · injection hv with _ _ h; unfold maxLen at hm; omega
  exact ⟨hb.2.1, hb.2.2, hc.1, hc.2, fun x hx => (h.lt x.block (by rw [hx]; rfl)).2⟩
/-- Unframe answers a body of so many bytes, and the rest. -/
def UnfOk (w : World) (l : List Nat) (z : Nat) (e : Ending) (w' : World) : Prop :=
  ∃ a1 cap1 a2 cap2, e = .returned (.tuple #[.slice a1 z cap1, .slice a2 (l.length - (8 + z)) cap2, .int .i64 0]) ∧ PkCl w' ((l.drop 8).take z) a1 cap1 ∧ PkCl w' (l.drop (8 + z)) a2 cap2 ∧ Frm [] w w'
/-- The same; the body lies in a new block. -/
def UnfOkF (w : World) (l : List Nat) (z : Nat) (e : Ending) (w' : World) : Prop :=
  ∃ a1 cap1 a2 cap2, e = .returned (.tuple #[.slice a1 z cap1, .slice a2 (l.length - (8 + z)) cap2, .int .i64 0]) ∧ PkCl w' ((l.drop 8).take z) a1 cap1 ∧ PkCl w' (l.drop (8 + z)) a2 cap2 ∧ Frm [] w w' ∧ ∀ q, a1 = some q → w.heap.size ≤ q.block

set_option maxHeartbeats 1000000 in
theorem unframe_short (a : Option Addr) (n cap : Nat) (l : List Nat) (w : World) (hl : Bytes w a l) (hn : n = l.length) (hnc : n ≤ cap) (hnil : a = none → cap = 0) (hcap : n ≤ 140737488355328) (_hcm : cap ≤ 9223372036854775807) (h8 : n < 8) :
    Calls Tryz.prog 124 #[.slice a n cap] w (UnfErr w 4) := by
  have hmf : ∀ (fn : Fn) (first cap : Array Value) (w : World), (Instr.makeFunc fn first cap).run Tryz.prog w = .ok (.func fn first cap) w := fun _ _ _ _ => rfl
  have HL := Lib.hid hl; clear hl
  have HN := Lib.hid hn; clear hn
  have HNIL := Lib.hid hnil; clear hnil
  have hg0 : (Whole ((w.alloc (.cells #[.int .u32 0] 213)).alloc (.cells #[.int .u32 0] 213)) w.heap.size 213 #[.int .u32 0]) := (Whole.made w _ _).alloc _
  have hg1 : (Whole ((w.alloc (.cells #[.int .u32 0] 213)).alloc (.cells #[.int .u32 0] 213)) (w.heap.size + 1) 213 #[.int .u32 0]) := Whole.made' _ _ (by simp)
  have hf0 : Frm [] w ((w.alloc (.cells #[.int .u32 0] 213)).alloc (.cells #[.int .u32 0] 213)) := ((Frm.refl _ _).alloc _).alloc _
  have HG0 := Lib.hid hg0; clear hg0
  have HG1 := Lib.hid hg1; clear hg1
  have HF0 := Lib.hid hf0; clear hf0
  go_enter Tryz.func124, Tryz.ntmps124
  go_wp2_with fail
  refine (read_throw 152 _ _ _ _ l _ (Frm [] _) 4 (HF0.out.bytes HL.out (by simp)) HN.out HNIL.out hcap enters_unframe (fun w1 rb cb db h => head_short _ _ _ w1 rb cb db l h (by have := HN.out; omega))).mono ?_
  rintro e w3 ⟨w2, c, T, rfl, ⟨hf2, rfl⟩, hf3, hT⟩
  have HF := Lib.hid (HF0.out.trans (hf2.trans hf3 (U := []) (by simp) (fun x hx => .inr (hT x hx))) (U := []) (by simp) (by simp)); clear hf2 hf3 hT
  go_wp2
  go_ret3
  exact ⟨rfl, HF.out⟩

set_option maxHeartbeats 1000000 in
theorem unframe_long (a : Option Addr) (n cap : Nat) (l : List Nat) (w : World) (hl : Bytes w a l) (hn : n = l.length) (hnc : n ≤ cap) (hnil : a = none → cap = 0) (hcap : n ≤ 140737488355328) (_hcm : cap ≤ 9223372036854775807) (z s : Nat) (hz : val (l.take 4) = z) (hs : val ((l.drop 4).take 4) = s) (h8 : 8 ≤ n) (hz4 : 4096 < z) :
    Calls Tryz.prog 124 #[.slice a n cap] w (UnfErr w 3) := by
  have hz32 : z < 4294967296 := by
    have := val_lt (l.take 4) (fun c hc => hl.1 c (List.mem_of_mem_take hc))
    rw [List.length_take, Nat.min_eq_left (by omega), hz] at this
    simpa using this
  have hs32 : s < 4294967296 := by
    have := val_lt ((l.drop 4).take 4) (fun c hc => hl.1 c (List.mem_of_mem_drop (List.mem_of_mem_take hc)))
    rw [List.length_take, Nat.min_eq_left (by simp; omega), hs] at this
    simpa using this
  have HZ := Lib.hid hz; clear hz
  have HS := Lib.hid hs; clear hs
  have hmf : ∀ (fn : Fn) (first cap : Array Value) (w : World), (Instr.makeFunc fn first cap).run Tryz.prog w = .ok (.func fn first cap) w := fun _ _ _ _ => rfl
  have HL := Lib.hid hl; clear hl
  have HN := Lib.hid hn; clear hn
  have HNIL := Lib.hid hnil; clear hnil
  have hg0 : (Whole ((w.alloc (.cells #[.int .u32 0] 213)).alloc (.cells #[.int .u32 0] 213)) w.heap.size 213 #[.int .u32 0]) := (Whole.made w _ _).alloc _
  have hg1 : (Whole ((w.alloc (.cells #[.int .u32 0] 213)).alloc (.cells #[.int .u32 0] 213)) (w.heap.size + 1) 213 #[.int .u32 0]) := Whole.made' _ _ (by simp)
  have hf0 : Frm [] w ((w.alloc (.cells #[.int .u32 0] 213)).alloc (.cells #[.int .u32 0] 213)) := ((Frm.refl _ _).alloc _).alloc _
  have HG0 := Lib.hid hg0; clear hg0
  have HG1 := Lib.hid hg1; clear hg1
  have HF0 := Lib.hid hf0; clear hf0
  have hmin : ∀ (w : World), (Builtin.min_ #[3, 3] 3 #[.int .i64 (n : Int), .int .i64 8]).run Tryz.prog w = .ok (.int .i64 8) w := by
    intro w
    by_cases h9 : n = 8
    · subst h9; kernel_rfl
    · simp [go_sem]; omega
  go_enter Tryz.func124, Tryz.ntmps124
  go_wp2_with fail
  refine (read_ret 152 _ _ _ _ (l.take 8) _ (Head _ w.heap.size (w.heap.size + 1) (l.take 8)) ((HF0.out.bytes HL.out (by simp)).take 8) (by simp; have := HN.out; omega) HNIL.out (by omega) enters_unframe (fun w1 rb cb db h => head_ret w.heap.size (w.heap.size + 1) _ _ _ w1 rb cb db (l.take 8) h HG0.out HG1.out (by omega) (by simp; have := HN.out; omega))).mono ?_
  rintro e w3 ⟨w2, c, T, rfl, ⟨rest, ⟨hrest, hf2, hz2, hs2⟩, hc⟩, hf3, hT⟩
  have hr0 : rest = [] := by rw [hrest]; simp
  obtain rfl : c = 0 := by rw [hc, if_pos hr0]
  have hsz2 : ((w.alloc (.cells #[.int .u32 0] 213)).alloc (.cells #[.int .u32 0] 213)).heap.size = w.heap.size + 2 := by simp
  have hz3 := hf3.whole hz2 (fun hm => by have := hT _ hm; omega)
  have hs3 := hf3.whole hs2 (fun hm => by have := hT _ hm; omega)
  have e1 : (l.take 8).take 4 = l.take 4 := by rw [List.take_take]; rfl
  have e2 : ((l.take 8).drop 4).take 4 = (l.drop 4).take 4 := by rw [List.drop_take, List.take_take]; rfl
  rw [e1, HZ.out] at hz3
  rw [e2, HS.out] at hs3
  have HF := Lib.hid ((HF0.out.fresh (F := [w.heap.size, w.heap.size + 1]) (by simp) hf2).fresh (F := T) (fun x hx => by have := hT x hx; omega) hf3)
  have z0 := hz3.cell 0
  have s0 := hs3.cell 0
  simp at z0 s0
  clear hf2 hf3 hT hz2 hs2 hz3 hs3 e1 e2 hrest hr0 hc hsz2 HG0 HG1
  go_wp2
  go_ret3
  exact ⟨rfl, HF.out⟩

set_option maxHeartbeats 1000000 in
theorem unframe_less (a : Option Addr) (n cap : Nat) (l : List Nat) (w : World) (hl : Bytes w a l) (hn : n = l.length) (hnc : n ≤ cap) (hnil : a = none → cap = 0) (hcap : n ≤ 140737488355328) (_hcm : cap ≤ 9223372036854775807) (z s : Nat) (hz : val (l.take 4) = z) (hs : val ((l.drop 4).take 4) = s) (h8 : 8 ≤ n) (hz4 : z ≤ 4096) (hzn : n < 8 + z) :
    Calls Tryz.prog 124 #[.slice a n cap] w (UnfErr w 4) := by
  have hz32 : z < 4294967296 := by
    have := val_lt (l.take 4) (fun c hc => hl.1 c (List.mem_of_mem_take hc))
    rw [List.length_take, Nat.min_eq_left (by omega), hz] at this
    simpa using this
  have hs32 : s < 4294967296 := by
    have := val_lt ((l.drop 4).take 4) (fun c hc => hl.1 c (List.mem_of_mem_drop (List.mem_of_mem_take hc)))
    rw [List.length_take, Nat.min_eq_left (by simp; omega), hs] at this
    simpa using this
  have HZ := Lib.hid hz; clear hz
  have HS := Lib.hid hs; clear hs
  have hmf : ∀ (fn : Fn) (first cap : Array Value) (w : World), (Instr.makeFunc fn first cap).run Tryz.prog w = .ok (.func fn first cap) w := fun _ _ _ _ => rfl
  have HL := Lib.hid hl; clear hl
  have HN := Lib.hid hn; clear hn
  have HNIL := Lib.hid hnil; clear hnil
  have hg0 : (Whole ((w.alloc (.cells #[.int .u32 0] 213)).alloc (.cells #[.int .u32 0] 213)) w.heap.size 213 #[.int .u32 0]) := (Whole.made w _ _).alloc _
  have hg1 : (Whole ((w.alloc (.cells #[.int .u32 0] 213)).alloc (.cells #[.int .u32 0] 213)) (w.heap.size + 1) 213 #[.int .u32 0]) := Whole.made' _ _ (by simp)
  have hf0 : Frm [] w ((w.alloc (.cells #[.int .u32 0] 213)).alloc (.cells #[.int .u32 0] 213)) := ((Frm.refl _ _).alloc _).alloc _
  have HG0 := Lib.hid hg0; clear hg0
  have HG1 := Lib.hid hg1; clear hg1
  have HF0 := Lib.hid hf0; clear hf0
  have hmin : ∀ (w : World), (Builtin.min_ #[3, 3] 3 #[.int .i64 (n : Int), .int .i64 8]).run Tryz.prog w = .ok (.int .i64 8) w := by
    intro w
    by_cases h9 : n = 8
    · subst h9; kernel_rfl
    · simp [go_sem]; omega
  go_enter Tryz.func124, Tryz.ntmps124
  go_wp2_with fail
  refine (read_ret 152 _ _ _ _ (l.take 8) _ (Head _ w.heap.size (w.heap.size + 1) (l.take 8)) ((HF0.out.bytes HL.out (by simp)).take 8) (by simp; have := HN.out; omega) HNIL.out (by omega) enters_unframe (fun w1 rb cb db h => head_ret w.heap.size (w.heap.size + 1) _ _ _ w1 rb cb db (l.take 8) h HG0.out HG1.out (by omega) (by simp; have := HN.out; omega))).mono ?_
  rintro e w3 ⟨w2, c, T, rfl, ⟨rest, ⟨hrest, hf2, hz2, hs2⟩, hc⟩, hf3, hT⟩
  have hr0 : rest = [] := by rw [hrest]; simp
  obtain rfl : c = 0 := by rw [hc, if_pos hr0]
  have hsz2 : ((w.alloc (.cells #[.int .u32 0] 213)).alloc (.cells #[.int .u32 0] 213)).heap.size = w.heap.size + 2 := by simp
  have hz3 := hf3.whole hz2 (fun hm => by have := hT _ hm; omega)
  have hs3 := hf3.whole hs2 (fun hm => by have := hT _ hm; omega)
  have e1 : (l.take 8).take 4 = l.take 4 := by rw [List.take_take]; rfl
  have e2 : ((l.take 8).drop 4).take 4 = (l.drop 4).take 4 := by rw [List.drop_take, List.take_take]; rfl
  rw [e1, HZ.out] at hz3
  rw [e2, HS.out] at hs3
  have HF := Lib.hid ((HF0.out.fresh (F := [w.heap.size, w.heap.size + 1]) (by simp) hf2).fresh (F := T) (fun x hx => by have := hT x hx; omega) hf3)
  have z0 := hz3.cell 0
  have s0 := hs3.cell 0
  simp at z0 s0
  clear hf2 hf3 hT hz2 hs2 hz3 hs3 e1 e2 hrest hr0 hc hsz2 HG0 HG1
  go_wp2
  go_ret3
  exact ⟨rfl, HF.out⟩

set_option maxHeartbeats 1000000 in
theorem unframe_sum (a : Option Addr) (n cap : Nat) (l : List Nat) (w : World) (hl : Bytes w a l) (hn : n = l.length) (hnc : n ≤ cap) (hnil : a = none → cap = 0) (hcap : n ≤ 140737488355328) (_hcm : cap ≤ 9223372036854775807) (z s : Nat) (hz : val (l.take 4) = z) (hs : val ((l.drop 4).take 4) = s) (h8 : 8 ≤ n) (hz4 : z ≤ 4096) (hzn : 8 + z ≤ n) (m : Nat) (hm : sumN ((l.drop 8).take z) = m) (hne : m ≠ s) :
    Calls Tryz.prog 124 #[.slice a n cap] w (UnfErr w 7) := by
  have HSUM := Lib.hid hm; clear hm
  have hz32 : z < 4294967296 := by
    have := val_lt (l.take 4) (fun c hc => hl.1 c (List.mem_of_mem_take hc))
    rw [List.length_take, Nat.min_eq_left (by omega), hz] at this
    simpa using this
  have hs32 : s < 4294967296 := by
    have := val_lt ((l.drop 4).take 4) (fun c hc => hl.1 c (List.mem_of_mem_drop (List.mem_of_mem_take hc)))
    rw [List.length_take, Nat.min_eq_left (by simp; omega), hs] at this
    simpa using this
  have HZ := Lib.hid hz; clear hz
  have HS := Lib.hid hs; clear hs
  have hmf : ∀ (fn : Fn) (first cap : Array Value) (w : World), (Instr.makeFunc fn first cap).run Tryz.prog w = .ok (.func fn first cap) w := fun _ _ _ _ => rfl
  have HL := Lib.hid hl; clear hl
  have HN := Lib.hid hn; clear hn
  have HNIL := Lib.hid hnil; clear hnil
  have hg0 : (Whole ((w.alloc (.cells #[.int .u32 0] 213)).alloc (.cells #[.int .u32 0] 213)) w.heap.size 213 #[.int .u32 0]) := (Whole.made w _ _).alloc _
  have hg1 : (Whole ((w.alloc (.cells #[.int .u32 0] 213)).alloc (.cells #[.int .u32 0] 213)) (w.heap.size + 1) 213 #[.int .u32 0]) := Whole.made' _ _ (by simp)
  have hf0 : Frm [] w ((w.alloc (.cells #[.int .u32 0] 213)).alloc (.cells #[.int .u32 0] 213)) := ((Frm.refl _ _).alloc _).alloc _
  have HG0 := Lib.hid hg0; clear hg0
  have HG1 := Lib.hid hg1; clear hg1
  have HF0 := Lib.hid hf0; clear hf0
  have hmin : ∀ (w : World), (Builtin.min_ #[3, 3] 3 #[.int .i64 (n : Int), .int .i64 8]).run Tryz.prog w = .ok (.int .i64 8) w := by
    intro w
    by_cases h9 : n = 8
    · subst h9; kernel_rfl
    · simp [go_sem]; omega
  have hcut2 : ∀ w, (Instr.slice 36 (.slice a n cap) (some (.int .i64 8)) (some (.int .i64 (8 + (z : Int)))) none).run Tryz.prog w = .ok (.slice (cutAt a cap 8) z (cap - 8)) w := fun w => by
    have := run_cut_lh (P := Tryz.prog) Tryz.underlying36 size_byte w a n cap 8 (8 + z) 8 (8 + (z : Int)) (by omega) (by omega) (by omega) (by omega)
    rwa [show 8 + z - 8 = z by omega] at this
  have HC1 := Lib.hid (fun (w' : World) (hB : Bytes w' a l) => ((cut_bytes hB (by have := HN.out; omega) 8 : Bytes w' (cutAt a cap 8) (l.drop 8)).take z))
  have HCL : Hid (z = ((l.drop 8).take z).length) := by show z = _; simp; have := HN.out; omega
  have HCN := Lib.hid (fun (h : cutAt a cap 8 = none) => cut_none HNIL.out h)
  obtain ⟨a1, ha1⟩ : ∃ a1, a1 = cutAt a cap 8 := ⟨_, rfl⟩
  obtain ⟨c1, hc1⟩ : ∃ c1, c1 = cap - 8 := ⟨_, rfl⟩
  rw [← ha1, ← hc1] at hcut2
  rw [← ha1] at HC1 HCN
  rw [← hc1] at HCN
  clear ha1 hc1
  have hnb : ((m : Int) == (s : Int)) = false := by simp; omega
  have hnb2 : ((m : Int) != (s : Int)) = true := by simp; omega
  clear hne
  go_enter Tryz.func124, Tryz.ntmps124
  go_wp2_with fail
  refine (read_ret 152 _ _ _ _ (l.take 8) _ (Head _ w.heap.size (w.heap.size + 1) (l.take 8)) ((HF0.out.bytes HL.out (by simp)).take 8) (by simp; have := HN.out; omega) HNIL.out (by omega) enters_unframe (fun w1 rb cb db h => head_ret w.heap.size (w.heap.size + 1) _ _ _ w1 rb cb db (l.take 8) h HG0.out HG1.out (by omega) (by simp; have := HN.out; omega))).mono ?_
  rintro e w3 ⟨w2, c, T, rfl, ⟨rest, ⟨hrest, hf2, hz2, hs2⟩, hc⟩, hf3, hT⟩
  have hr0 : rest = [] := by rw [hrest]; simp
  obtain rfl : c = 0 := by rw [hc, if_pos hr0]
  have hsz2 : ((w.alloc (.cells #[.int .u32 0] 213)).alloc (.cells #[.int .u32 0] 213)).heap.size = w.heap.size + 2 := by simp
  have hz3 := hf3.whole hz2 (fun hm => by have := hT _ hm; omega)
  have hs3 := hf3.whole hs2 (fun hm => by have := hT _ hm; omega)
  have e1 : (l.take 8).take 4 = l.take 4 := by rw [List.take_take]; rfl
  have e2 : ((l.take 8).drop 4).take 4 = (l.drop 4).take 4 := by rw [List.drop_take, List.take_take]; rfl
  rw [e1, HZ.out] at hz3
  rw [e2, HS.out] at hs3
  have HF := Lib.hid ((HF0.out.fresh (F := [w.heap.size, w.heap.size + 1]) (by simp) hf2).fresh (F := T) (fun x hx => by have := hT x hx; omega) hf3)
  have z0 := hz3.cell 0
  have s0 := hs3.cell 0
  simp at z0 s0
  clear hf2 hf3 hT hz2 hs2 hz3 hs3 e1 e2 hrest hr0 hc hsz2 HG0 HG1
  go_wp2
  have HBW := Lib.hid (HF.out.bytes HL.out (by simp))
  go_quiet ((go_at_call 136; exact flip_quiet (sum_eq _ _ _ ((l.drop 8).take z) _ m HSUM.out (by exact HC1.out _ HBW.out) HCL.out)))
  go_wp2
  go_ret3
  exact ⟨rfl, HF.out.drewN _⟩

set_option maxHeartbeats 2000000 in
theorem unframe_okF (a : Option Addr) (n cap : Nat) (l : List Nat) (w : World) (hl : Bytes w a l) (hn : n = l.length) (hnc : n ≤ cap) (hnil : a = none → cap = 0) (hcap : n ≤ 140737488355328) (_hcm : cap ≤ 9223372036854775807) (z s : Nat) (hz : val (l.take 4) = z) (hs : val ((l.drop 4).take 4) = s) (h8 : 8 ≤ n) (hz4 : z ≤ 4096) (hzn : 8 + z ≤ n) (hm : sumN ((l.drop 8).take z) = s) :
    Calls Tryz.prog 124 #[.slice a n cap] w (UnfOkF w l z) := by
  have HSUM := Lib.hid hm; clear hm
  have H8 := Lib.hid hl.1
  have hz32 : z < 4294967296 := by
    have := val_lt (l.take 4) (fun c hc => hl.1 c (List.mem_of_mem_take hc))
    rw [List.length_take, Nat.min_eq_left (by omega), hz] at this
    simpa using this
  have hs32 : s < 4294967296 := by
    have := val_lt ((l.drop 4).take 4) (fun c hc => hl.1 c (List.mem_of_mem_drop (List.mem_of_mem_take hc)))
    rw [List.length_take, Nat.min_eq_left (by simp; omega), hs] at this
    simpa using this
  have HZ := Lib.hid hz; clear hz
  have HS := Lib.hid hs; clear hs
  have hmf : ∀ (fn : Fn) (first cap : Array Value) (w : World), (Instr.makeFunc fn first cap).run Tryz.prog w = .ok (.func fn first cap) w := fun _ _ _ _ => rfl
  have HL := Lib.hid hl; clear hl
  have HN := Lib.hid hn; clear hn
  have HNIL := Lib.hid hnil; clear hnil
  have hg0 : (Whole ((w.alloc (.cells #[.int .u32 0] 213)).alloc (.cells #[.int .u32 0] 213)) w.heap.size 213 #[.int .u32 0]) := (Whole.made w _ _).alloc _
  have hg1 : (Whole ((w.alloc (.cells #[.int .u32 0] 213)).alloc (.cells #[.int .u32 0] 213)) (w.heap.size + 1) 213 #[.int .u32 0]) := Whole.made' _ _ (by simp)
  have hf0 : Frm [] w ((w.alloc (.cells #[.int .u32 0] 213)).alloc (.cells #[.int .u32 0] 213)) := ((Frm.refl _ _).alloc _).alloc _
  have HG0 := Lib.hid hg0; clear hg0
  have HG1 := Lib.hid hg1; clear hg1
  have HF0 := Lib.hid hf0; clear hf0
  have hmin : ∀ (w : World), (Builtin.min_ #[3, 3] 3 #[.int .i64 (n : Int), .int .i64 8]).run Tryz.prog w = .ok (.int .i64 8) w := by
    intro w
    by_cases h9 : n = 8
    · subst h9; kernel_rfl
    · simp [go_sem]; omega
  have hcut2 : ∀ w, (Instr.slice 36 (.slice a n cap) (some (.int .i64 8)) (some (.int .i64 (8 + (z : Int)))) none).run Tryz.prog w = .ok (.slice (cutAt a cap 8) z (cap - 8)) w := fun w => by
    have := run_cut_lh (P := Tryz.prog) Tryz.underlying36 size_byte w a n cap 8 (8 + z) 8 (8 + (z : Int)) (by omega) (by omega) (by omega) (by omega)
    rwa [show 8 + z - 8 = z by omega] at this
  have HC1 := Lib.hid (fun (w' : World) (hB : Bytes w' a l) => ((cut_bytes hB (by have := HN.out; omega) 8 : Bytes w' (cutAt a cap 8) (l.drop 8)).take z))
  have HCL : Hid (z = ((l.drop 8).take z).length) := by show z = _; simp; have := HN.out; omega
  have HCN := Lib.hid (fun (h : cutAt a cap 8 = none) => cut_none HNIL.out h)
  obtain ⟨a1, ha1⟩ : ∃ a1, a1 = cutAt a cap 8 := ⟨_, rfl⟩
  obtain ⟨c1, hc1⟩ : ∃ c1, c1 = cap - 8 := ⟨_, rfl⟩
  rw [← ha1, ← hc1] at hcut2
  rw [← ha1] at HC1 HCN
  rw [← hc1] at HCN
  clear ha1 hc1
  have hcut3 : ∀ w, (Instr.slice 36 (.slice a n cap) (some (.int .i64 (8 + (z : Int)))) none none).run Tryz.prog w = .ok (.slice (cutAt a cap (8 + z)) (n - (8 + z)) (cap - (8 + z))) w := fun w =>
    run_cut_l (P := Tryz.prog) Tryz.underlying36 size_byte w a n cap (8 + z) (8 + (z : Int)) (by omega) (by omega)
  have HD1 := Lib.hid (fun (w' : World) (hB : Bytes w' a l) => (cut_bytes hB (by have := HN.out; omega) (8 + z) : Bytes w' (cutAt a cap (8 + z)) (l.drop (8 + z))))
  obtain ⟨m, hm⟩ : ∃ m, m = n - (8 + z) := ⟨_, rfl⟩
  have HDL : Hid (m = (l.drop (8 + z)).length) := by show m = _; simp; have := HN.out; omega
  have HDN := Lib.hid (fun (h : cutAt a cap (8 + z) = none) => cut_none HNIL.out h)
  obtain ⟨a2, ha2⟩ : ∃ a2, a2 = cutAt a cap (8 + z) := ⟨_, rfl⟩
  obtain ⟨c2, hc2⟩ : ∃ c2, c2 = cap - (8 + z) := ⟨_, rfl⟩
  rw [← ha2, ← hm, ← hc2] at hcut3
  rw [← ha2] at HD1 HDN
  rw [← hc2] at HDN
  have hmfit : m ≤ 140737488355328 := by omega
  have HM := Lib.hid hm; clear hm
  clear ha2 hc2
  have hnb : ((s : Int) != (s : Int)) = false := by simp
  go_enter Tryz.func124, Tryz.ntmps124
  go_wp2_with fail
  refine (read_ret 152 _ _ _ _ (l.take 8) _ (Head _ w.heap.size (w.heap.size + 1) (l.take 8)) ((HF0.out.bytes HL.out (by simp)).take 8) (by simp; have := HN.out; omega) HNIL.out (by omega) enters_unframe (fun w1 rb cb db h => head_ret w.heap.size (w.heap.size + 1) _ _ _ w1 rb cb db (l.take 8) h HG0.out HG1.out (by omega) (by simp; have := HN.out; omega))).mono ?_
  rintro e w3 ⟨w2, c, T, rfl, ⟨rest, ⟨hrest, hf2, hz2, hs2⟩, hc⟩, hf3, hT⟩
  have hr0 : rest = [] := by rw [hrest]; simp
  obtain rfl : c = 0 := by rw [hc, if_pos hr0]
  have hsz2 : ((w.alloc (.cells #[.int .u32 0] 213)).alloc (.cells #[.int .u32 0] 213)).heap.size = w.heap.size + 2 := by simp
  have hz3 := hf3.whole hz2 (fun hm => by have := hT _ hm; omega)
  have hs3 := hf3.whole hs2 (fun hm => by have := hT _ hm; omega)
  have e1 : (l.take 8).take 4 = l.take 4 := by rw [List.take_take]; rfl
  have e2 : ((l.take 8).drop 4).take 4 = (l.drop 4).take 4 := by rw [List.drop_take, List.take_take]; rfl
  rw [e1, HZ.out] at hz3
  rw [e2, HS.out] at hs3
  have HF := Lib.hid ((HF0.out.fresh (F := [w.heap.size, w.heap.size + 1]) (by simp) hf2).fresh (F := T) (fun x hx => by have := hT x hx; omega) hf3)
  have z0 := hz3.cell 0
  have s0 := hs3.cell 0
  simp at z0 s0
  clear hf2 hf3 hT hz2 hs2 hz3 hs3 e1 e2 hrest hr0 hc hsz2 HG0 HG1
  go_wp2
  have HBW := Lib.hid (HF.out.bytes HL.out (by simp))
  go_quiet ((go_at_call 136; exact flip_quiet (sum_eq _ _ _ ((l.drop 8).take z) _ s HSUM.out (by exact HC1.out _ HBW.out) HCL.out)))
  have HFQ := Lib.hid (HF.out.drewN nq)
  go_wp2
  go_region_held3 (fun w' => Frm [] w w') (first | assumption | exact HFQ.out | exact HFQ.out.drew | exact HF.out.drewN _ | exact (HF.out.drewN _).drew) (first | (go_at_call_of 88 (Value.slice a1 z c1); refine (clone_any a1 z c1 ((l.drop 8).take z) _ (HC1.out _ (Frm.bytes (S := []) (by assumption) HL.out (by simp))) HCL.out HCN.out (by omega)).mono ?_; rintro e wx ⟨ax, capx, rfl, hox, hfx⟩; have hNx : ∀ q, ax = some q → w.heap.size ≤ q.block := fun q hq => Nat.le_trans (Frm.size (S := []) (w := w) (by assumption)) (World.ownsRow.lt hox q.block (by rw [hq]; rfl)).1; have hSx : Frm [] w wx := Frm.trans (by assumption) hfx (by simp) (by simp)) | (go_at_call_of 88 (Value.slice a2 m c2); refine (clone_any a2 m c2 (l.drop (8 + z)) _ (HD1.out _ (Frm.bytes (S := []) (by assumption) HL.out (by simp))) HDL.out HDN.out hmfit).mono ?_; rintro e wy ⟨ay, capy, rfl, hoy, hfy⟩; have hSy : Frm [] w wy := Frm.trans (by assumption) hfy (by simp) (by simp)))
  all_goals
    have e1 : min z (l.length - 8) = z := by have := HN.out; omega
    have h8a : ∀ c ∈ (l.drop 8).take z, c < 256 := fun c hc => H8.out c (List.mem_of_mem_drop (List.mem_of_mem_take hc))
    have h8b : ∀ c ∈ l.drop (8 + z), c < 256 := fun c hc => H8.out c (List.mem_of_mem_drop hc)
    have hkx := own_cl hox h8a
    have hky := own_cl hoy h8b
    have HKX := Lib.hid hkx
    have HKY := Lib.hid hky
    have HSX := Lib.hid hSx
    have HSY := Lib.hid hSy
    have HFX := Lib.hid hfx
    have HNX := Lib.hid hNx
    have HFY := Lib.hid hfy
    rw [e1]
    clear hox hoy hkx hky hSx hSy hfx hfy h8a h8b e1 hNx
    go_wp2
    go_ret3
    first
      | exact ⟨ax, capx, ay, capy, rfl, HKX.out.keep HFY.out, HKY.out, HSY.out, HNX.out⟩
      | exact ⟨ax, capx, ay, capy, rfl, HKX.out, HKY.out.keep HFX.out, HSX.out, HNX.out⟩
end Go.Proofs.YtcbpppdmkhpkkaaGreat
/- Contracts of the reference's Reader: Number; and of its Unframe. -/
namespace Go.Proofs.YtcbpppdmkhpkkaaGreat
open Go.RowKit

/-- The reference's reader at block rb has the bytes l left, and no fault. -/
structure RR (w : World) (rb : Nat) (l : List Nat) (a : Option Addr) (cap : Nat) : Prop where
  whole : Whole w rb 104 #[.slice a l.length cap, .int .i64 0]
  bytes : Bytes w a l
  le : l.length ≤ cap
  nil : a = none → cap = 0
  apart : l ≠ [] → ∀ x, a = some x → x.block ≠ rb

theorem val_take_succ (l : List Nat) (i : Nat) (h : i < l.length) : val (l.take (i + 1)) = val (l.take i) * 256 + l.getD i 0 := by
  rw [take_snoc_getD h, val_snoc]
theorem val_take_lt8 {l : List Nat} (h8 : ∀ c ∈ l, c < 256) (i : Nat) (h : i < 8) : val (l.take i) < 72057594037927936 := by
  have h1 := val_lt (l.take i) (fun c hc => h8 c (List.mem_of_mem_take hc))
  have h2 : (l.take i).length ≤ 7 := by rw [List.length_take]; omega
  exact Nat.lt_of_lt_of_le h1 (Nat.le_trans (Nat.pow_le_pow_right (by omega) h2) (by decide))

/-- Behind Number: the reader is further on. -/
theorem RR.next {w : World} {rb : Nat} {l : List Nat} {a : Option Addr} {cap : Nat} (h : RR w rb l a cap) (k : Nat) :
    RR (w.setCell ⟨rb, 0, none⟩ (.slice (cutAt a cap k) (l.length - k) (cap - k))) rb (l.drop k) (cutAt a cap k) (cap - k) := by
  have hf : Frm [rb] w (w.setCell ⟨rb, 0, none⟩ (.slice (cutAt a cap k) (l.length - k) (cap - k))) := (Frm.refl _ _).setCell (.inl (by simp)) _
  have hap : l.drop k ≠ [] → ∀ x, cutAt a cap k = some x → x.block ≠ rb := fun hne x hx => by
    obtain ⟨y, hy, hb⟩ := cut_block hx
    rw [hb]; exact h.apart (fun h0 => hne (by rw [h0]; simp)) y hy
  refine ⟨?_, hf.bytes' (cut_bytes h.bytes h.le k) (fun hne x hx => by simpa using hap hne x hx), by simp; have := h.le; omega, fun hn => cut_none h.nil hn, hap⟩
  simpa using h.whole.put 0 (.slice (cutAt a cap k) (l.length - k) (cap - k))

/-- What Number hands back. -/
def Numbered (w : World) (rb : Nat) (l : List Nat) (a : Option Addr) (cap k : Nat) (e : Ending) (w' : World) : Prop :=
  e = .returned (.int .u64 (val (l.take k) : Nat)) ∧ w' = w.setCell ⟨rb, 0, none⟩ (.slice (cutAt a cap k) (l.length - k) (cap - k))

/- == ref unframe -/
/-- The reference's Unframe answers a body and the rest. -/
def RUOk (w : World) (l : List Nat) (z : Nat) (e : Ending) (w' : World) : Prop :=
  ∃ a1 cap1 a2 cap2, e = .returned (.tuple #[.slice a1 z cap1, .slice a2 (l.length - (8 + z)) cap2, .int .i64 0]) ∧ Bytes w' a1 ((l.drop 8).take z) ∧ Bytes w' a2 (l.drop (8 + z)) ∧ Frm [] w w'
/-- The same, and where the body lies. -/
def RUOkA (w : World) (a : Option Addr) (l : List Nat) (z : Nat) (e : Ending) (w' : World) : Prop :=
  ∃ a1 cap1 a2 cap2, e = .returned (.tuple #[.slice a1 z cap1, .slice a2 (l.length - (8 + z)) cap2, .int .i64 0]) ∧ Bytes w' a1 ((l.drop 8).take z) ∧ Bytes w' a2 (l.drop (8 + z)) ∧ Frm [] w w' ∧ (∀ y, a1 = some y → ∃ q, a = some q ∧ y.block = q.block) ∧ (a1 = none → cap1 = 0)

end Go.Proofs.YtcbpppdmkhpkkaaGreat
/- One contract for Unframe, and for the reference's: body, rest and error as functions of the bytes. And the reference's Frame. -/
namespace Go.Proofs.YtcbpppdmkhpkkaaGreat
open Go.RowKit

/-- The error that Unframe answers of these bytes. -/
def uC (l : List Nat) : Int :=
  if l.length < 8 then 4 else if 4096 < val (l.take 4) then 3 else if l.length < 8 + val (l.take 4) then 4 else if sumN ((l.drop 8).take (val (l.take 4))) = val ((l.drop 4).take 4) then 0 else 7
/-- The body; what is left. -/
def uX (l : List Nat) : List Nat := if uC l = 0 then (l.drop 8).take (val (l.take 4)) else []
def uY (l : List Nat) : List Nat := if uC l = 0 then l.drop (8 + val (l.take 4)) else []
def Unf (w : World) (x y : List Nat) (c : Int) (e : Ending) (w' : World) : Prop :=
  ∃ a1 cap1 a2 cap2, e = .returned (.tuple #[.slice a1 x.length cap1, .slice a2 y.length cap2, .int .i64 c]) ∧ Bytes w' a1 x ∧ Bytes w' a2 y ∧ Frm [] w w'

theorem u_ok {l : List Nat} (h0 : uC l = 0) : 8 + val (l.take 4) ≤ l.length ∧ uX l = (l.drop 8).take (val (l.take 4)) ∧ uY l = l.drop (8 + val (l.take 4)) ∧ (uX l).length = val (l.take 4) ∧ (uY l).length = l.length - (8 + val (l.take 4)) := by
  have h1 : 8 + val (l.take 4) ≤ l.length := by
    unfold uC at h0
    repeat (split at h0; first | (exfalso; omega) | skip)
    all_goals omega
  have hx : uX l = (l.drop 8).take (val (l.take 4)) := by unfold uX; rw [if_pos h0]
  have hy : uY l = l.drop (8 + val (l.take 4)) := by unfold uY; rw [if_pos h0]
  refine ⟨h1, hx, hy, ?_, ?_⟩
  · rw [hx]; simp; omega
  · rw [hy]; simp

/-- What the reference's Frame hands back. -/
def RFramed (w : World) (l : List Nat) (e : Ending) (w' : World) : Prop :=
  ∃ a' cap', e = .returned (.slice a' (fr l).length cap') ∧ Bytes w' a' (fr l) ∧ Frm [] w w'

end Go.Proofs.YtcbpppdmkhpkkaaGreat
/- Plain arithmetic: the register bit by bit; bits that are turned within 32 side by side leave a register that is not 0. No condition. -/
namespace Go.Proofs.YtcbpppdmkhpkkaaGreat

/-- So many bits from a place on, as a number, the lowest first. -/
def bo (e : Nat → Bool) (base : Nat) : Nat → Nat
  | 0 => 0
  | m + 1 => bo e base m ^^^ (if e (base + m) then 2 ^ m else 0)
/-- The register behind so many bits. -/
def rb (x : Nat) (e : Nat → Bool) (base : Nat) : Nat → Nat
  | 0 => x
  | m + 1 => stp (rb x e base m ^^^ (if e (base + m) then 1 else 0))

/-- The bits of a word, laid from place k on. -/
def laid (k word i : Nat) (p : Nat) : Bool := decide (k ≤ p) && decide (p < k + i) && word.testBit (p - k)
/-- The bytes of a row of bits. -/
def rowOf (e : Nat → Bool) (n : Nat) : List Nat := (List.range n).map fun j => bo e (8 * j) 8
end Go.Proofs.YtcbpppdmkhpkkaaGreat
/- Plain arithmetic on frames: one byte turned turns the sum; a frame with anything behind it, cut, or with a bit turned, as Unframe's functions (uC, uX, uY) see it. -/
namespace Go.Proofs.YtcbpppdmkhpkkaaGreat

section
variable {l : List Nat}
theorem fr_take4 (m : List Nat) : (fr l ++ m).take 4 = be 4 l.length := by
  have : fr l ++ m = be 4 l.length ++ (be 4 (sumN l) ++ (l ++ m)) := by simp [fr]
  rw [this, List.take_left' (be_length _ _)]
theorem fr_drop4 (m : List Nat) : ((fr l ++ m).drop 4).take 4 = be 4 (sumN l) := by
  have : fr l ++ m = be 4 l.length ++ (be 4 (sumN l) ++ (l ++ m)) := by simp [fr]
  rw [this, List.drop_left' (be_length _ _), List.take_left' (be_length _ _)]
theorem fr_drop8 (m : List Nat) : (fr l ++ m).drop 8 = l ++ m := by
  have : fr l ++ m = (be 4 l.length ++ be 4 (sumN l)) ++ (l ++ m) := by simp [fr]
  rw [this, List.drop_left' (by simp [be_length])]
theorem val_len (h : l.length ≤ 4096) : val (be 4 l.length) = l.length := val_be _ _ (by have : (256 : Nat) ^ 4 = 4294967296 := rfl; omega)
theorem val_sum (h8 : ∀ c ∈ l, c < 256) : val (be 4 (sumN l)) = sumN l := val_be _ _ (by have := sumN_lt h8; have h2 : (256 : Nat) ^ 4 = 4294967296 := rfl; omega)

/-- A frame, with anything behind it. -/
theorem u_frame (m : List Nat) (h : l.length ≤ 4096) (h8 : ∀ c ∈ l, c < 256) : uC (fr l ++ m) = 0 ∧ uX (fr l ++ m) = l ∧ uY (fr l ++ m) = m := by
  have hlen : (fr l ++ m).length = l.length + 8 + m.length := by rw [List.length_append, fr_length]
  have h0 : uC (fr l ++ m) = 0 := by
    unfold uC
    rw [fr_take4, fr_drop4, fr_drop8, val_len h, val_sum h8, List.take_left' rfl, if_neg (by omega), if_neg (by omega), if_neg (by omega), if_pos rfl]
  obtain ⟨_, hx, hy, _, _⟩ := u_ok h0
  refine ⟨h0, ?_, ?_⟩
  · rw [hx, fr_take4, val_len h, fr_drop8, List.take_left' rfl]
  · rw [hy, fr_take4, val_len h, ← List.drop_drop, fr_drop8, List.drop_left' rfl]
end
end Go.Proofs.YtcbpppdmkhpkkaaGreat
