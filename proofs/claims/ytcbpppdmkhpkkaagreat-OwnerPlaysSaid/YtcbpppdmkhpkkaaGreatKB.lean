/- Contracts and mathematics that the proofs of this seat stand on: Head, DkBase, DkCut, DkLay, DkTurn, DkOps, DkCrash, JnMath, Vals, JnFirst, JnUnf, JnBodies, JnRecords, JnSame, DkNil, DkAwake, JnOps. -/
import Derived.Test.YtcbpppdmkhpkkaaGreatKA
import Derived.Laws.Slices
import Derived.WalkSpells
import Derived.Outline
import Derived.Deep.RegionHeld3
import Derived.Deep.QuietTactic
import Derived.BigQuiet
import Derived.BigRegion
import Derived.StillTailTactics
import Derived.WalkLawsBesides
import Derived.Laws.BitsAllLaws
import Derived.Maps.AppendAt
import Derived.Deep.RegionLaw
import Derived.Lib.SlBytesConst
/- A slice of bytes at the head of a block of the call's own, with spare room or without (Hd); what appending to it leaves, in a plain region and in one that draws its order. They speak of no program. -/
namespace Go.Proofs.YtcbpppdmkhpkkaaGreat
open Go.RowKit

/-- The block that a slice lies in, if it has one. -/
def blk (a : Option Addr) : List Nat := (a.map (·.block)).toList
@[simp] theorem blk_none : blk none = [] := rfl
@[simp] theorem blk_some (x : Addr) : blk (some x) = [x.block] := rfl
theorem mem_blk {a : Option Addr} {g : Nat} : g ∈ blk a ↔ ∃ x, a = some x ∧ x.block = g := by
  cases a with
  | none => simp
  | some y => simp; exact ⟨fun h => h.symm, fun h => h.symm⟩

/-- The slice at a, of capacity cap, is the bytes l: nil, or the head of a block from B on. -/
def Hd (w : World) (B : Nat) (e : TypeId) (a : Option Addr) (cap : Nat) (l : List Nat) : Prop :=
  (a = none ∧ l = [] ∧ cap = 0) ∨
  ∃ g cur, a = some ⟨g, 0, none⟩ ∧ B ≤ g ∧ w.heap[g]? = some (.cells cur e (0, 0)) ∧ l.length ≤ cap ∧ cap ≤ maxLen ∧ cap ≤ cur.size ∧ cur.toList.take l.length = l.map u8v

section
variable {w w' : World} {B : Nat} {e : TypeId} {a : Option Addr} {cap : Nat} {l : List Nat}
theorem Hd.nil (w : World) (B : Nat) (e : TypeId) : Hd w B e none 0 [] := .inl ⟨rfl, rfl, rfl⟩
theorem Hd.ofOwn {n : Nat} (h : w.ownsRow B e 1 (.slice a n cap) n (l.map u8v)) : n = l.length ∧ Hd w B e a cap l := by
  have hn : n = l.length := by have := h.1; simpa using this.symm
  refine ⟨hn, ?_⟩
  rcases h.2 with ⟨hv, h0⟩ | ⟨g, cap', cur, hv, hb, hg, hnc, hcm, hcs, ht⟩
  · simp only [Value.slice.injEq] at hv
    exact .inl ⟨hv.1, List.eq_nil_of_length_eq_zero (by omega), hv.2.2⟩
  · simp only [Value.slice.injEq] at hv
    obtain ⟨rfl, _, rfl⟩ := hv
    refine .inr ⟨g, cur, rfl, hb, hg, by omega, hcm, by omega, ?_⟩
    rw [← hn]; simpa using ht
theorem Hd.cap_le (h : Hd w B e a cap l) : l.length ≤ cap ∧ cap ≤ maxLen := by
  rcases h with ⟨_, rfl, rfl⟩ | ⟨g, cur, _, _, _, h1, h2, _⟩
  · simp
  · exact ⟨h1, h2⟩
theorem Hd.blk_lt (h : Hd w B e a cap l) : ∀ g ∈ blk a, B ≤ g ∧ g < w.heap.size := by
  intro x hx
  rcases h with ⟨rfl, _⟩ | ⟨g, cur, rfl, hb, hg, _⟩
  · simp at hx
  · simp at hx; subst hx; exact ⟨hb, lt_of_block hg⟩
theorem Hd.cellAt {g : Nat} (h : Hd w B e (some ⟨g, 0, none⟩) cap l) {i : Nat} (hi : i < l.length) : w.cell? ⟨g, i, none⟩ = some (u8v (l.getD i 0)) := by
  rcases h with ⟨h, _⟩ | ⟨g', cur, h, hb, hg, h1, h2, h3, ht⟩
  · cases h
  · cases h
    rw [cell_of_row w g i cur e (0, 0) hg]
    have e1 : (cur.toList.take l.length)[i]? = some (u8v (l.getD i 0)) := by rw [ht, getD_map_u8v hi]
    rw [List.getElem?_take, if_pos hi] at e1
    simpa using e1
theorem Hd.frozenAt {g : Nat} (h : Hd w B e (some ⟨g, 0, none⟩) cap l) (i : Nat) : w.frozen? ⟨g, i, none⟩ = false := by
  rcases h with ⟨h, _⟩ | ⟨g', cur, h, hb, hg, h1, h2, h3, ht⟩
  · cases h
  · cases h
    exact frozen_of_row w g i cur e hg
theorem Hd.bytes (h : Hd w B e a cap l) (h8 : ∀ c ∈ l, c < 256) : Bytes w a l := by
  have hc := h.cap_le
  unfold maxLen at hc
  refine ⟨h8, by omega, ?_⟩
  rcases h with ⟨_, rfl, _⟩ | ⟨g, cur, rfl, hb, hg, h1, h2, h3, ht⟩
  · exact .inl rfl
  · right
    refine ⟨g, 0, rfl, fun i hi => ?_⟩
    rw [Nat.zero_add]
    exact Hd.cellAt (.inr ⟨g, cur, rfl, hb, hg, h1, h2, h3, ht⟩) hi
theorem Hd.none_cap (h : Hd w B e a cap l) : a = none → cap = 0 := by
  intro ha
  rcases h with ⟨_, _, h⟩ | ⟨g, cur, rfl, _⟩
  · exact h
  · cases ha
theorem Hd.keep {S : List Nat} (h : Hd w B e a cap l) (hf : Frm S w w') (hn : ∀ g ∈ blk a, g ∉ S) : Hd w' B e a cap l := by
  rcases h with h | ⟨g, cur, rfl, hb, hg, h1⟩
  · exact .inl h
  · exact .inr ⟨g, cur, rfl, hb, by rw [hf.block g (lt_of_block hg) (hn g (by simp))]; exact hg, h1⟩
/-- The head of a slice, without spare room. -/
theorem Hd.tight (h : Hd w B e a cap l) (n : Nat) (hn : n ≤ l.length) : Hd w B e a n (l.take n) := by
  rcases h with ⟨rfl, rfl, rfl⟩ | ⟨g, cur, rfl, hb, hg, h1, h2, h3, ht⟩
  · have : n = 0 := by simpa using hn
    subst this; exact .inl ⟨rfl, rfl, rfl⟩
  · refine .inr ⟨g, cur, rfl, hb, hg, by simp; omega, by omega, by omega, ?_⟩
    have e1 : (l.take n).length = n := by simp; omega
    rw [e1, List.map_take, ← ht, List.take_take]
    congr 1; omega
/-- The head of a slice, its capacity as it was. -/
theorem Hd.less (h : Hd w B e a cap l) (n : Nat) : Hd w B e a cap (l.take n) := by
  rcases h with ⟨rfl, rfl, rfl⟩ | ⟨g, cur, rfl, hb, hg, h1, h2, h3, ht⟩
  · exact .inl ⟨rfl, by simp, rfl⟩
  · refine .inr ⟨g, cur, rfl, hb, hg, by simp; omega, h2, h3, ?_⟩
    rw [List.map_take, ← ht, List.take_take]
    congr 1; simp
/-- A byte of it is stored anew. -/
theorem Hd.put {g : Nat} (h : Hd w B e (some ⟨g, 0, none⟩) cap l) (i c : Nat) : Hd (w.setCell ⟨g, i, none⟩ (u8v c)) B e (some ⟨g, 0, none⟩) cap (l.set i c) := by
  rcases h with ⟨h, _⟩ | ⟨g', cur, h, hb, hg, h1, h2, h3, ht⟩
  · cases h
  · cases h
    refine .inr ⟨g, cur.setIfInBounds i (u8v c), rfl, hb, heap_setCell_same w g i cur e (u8v c) hg, by simpa using h1, h2, by simpa using h3, ?_⟩
    rw [List.length_set, Array.toList_setIfInBounds, List.take_set, ht, List.map_set]
end

section
variable {P : Program} {w : World}
/-- What appending the bytes b to such a slice leaves. -/
structure HApp (w w' : World) (B : Nat) (e : TypeId) (a : Option Addr) (l b : List Nat) (a' : Option Addr) (cap' : Nat) : Prop where
  head : Hd w' B e a' cap' (l ++ b)
  frm : Frm (blk a) w w'
  place : ∀ g ∈ blk a', g ∈ blk a ∨ w.heap.size ≤ g

theorem run_happ (B : Nat) (t ty e : TypeId) (i : TypeInfo) (ht : P.underlying t = some (.slice e)) (hi : P.info? e = some i) (hz : i.zero = some (.int .u8 0))
    (hsize : i.size = 1) (hby : i.bytes = 1) (a : Option Addr) (n cap : Nat) (l : List Nat) (h : Hd w B e a cap l) (hn : n = l.length)
    (ad : Option Addr) (m c : Nat) (b : List Nat) (hB : Bytes w ad b) (hm : m = b.length) (hnil : ad = none → c = 0)
    (hfit : n + m ≤ 140737488355328) (hbase : B ≤ w.heap.size) :
    ∃ a' cap' w', (Builtin.append_ #[t, t] ty #[.slice a n cap, .slice ad m c]).run P w = .ok (.slice a' (n + m) cap') w' ∧ HApp w w' B e a l b a' cap' := by
  have hcl := h.cap_le
  obtain ⟨h8, hl, hc⟩ := hB
  cases ad with
  | none =>
    have hc0 := hnil rfl
    subst hc0
    have hl0 : b = [] := by
      rcases hc with h | ⟨_, _, h, _⟩
      · exact h
      · cases h
    subst hl0
    have hm0 : m = 0 := by simpa using hm
    subst hm0
    refine ⟨a, cap, w, ?_, by simpa using h, Frm.refl _ _, fun g hg => .inl hg⟩
    have hle : n ≤ cap := by omega
    cases a <;> simp [Builtin.append_, run_underlying ht, sizeOf, typeInfo, hi, Builtin.lenOf, Builtin.firstCells, hle, storeCells]
  | some x =>
    have hnews : ∀ j u, (b.map u8v)[j]? = some u → w.cell? (x.add j) = some u := by
      rcases hc with h | ⟨_, off, h, hh⟩
      · subst h; intro j u hu; simp at hu
      · cases h; exact Bytes.news hh
    have own : ∀ v' w', w'.ownsRow B e 1 v' (n + m) (l.map u8v ++ b.map u8v) → ∃ a' cap', v' = .slice a' (n + m) cap' ∧ Hd w' B e a' cap' (l ++ b) := by
      intro v' w' ho
      rcases ho.2 with ⟨hv, h0⟩ | ⟨g, cap', cur, hv, _⟩
      · subst hv
        rw [← List.map_append] at ho
        exact ⟨none, 0, by rw [h0], (Hd.ofOwn (n := n + m) (by rw [h0] at ho ⊢; exact ho)).2⟩
      · subst hv
        rw [← List.map_append] at ho
        exact ⟨_, _, rfl, (Hd.ofOwn ho).2⟩
    rcases h with ⟨rfl, rfl, rfl⟩ | ⟨g, cur, rfl, hb, hg, h1, h2, h3, htk⟩
    · have hn0 : n = 0 := by simpa using hn
      subst hn0
      obtain ⟨v', w', hr, ho, hgr, _, hpl⟩ := run_append_own_at (P := P) w B t ty e i (.int .u8 0) 1 1 ht hi hz hsize hby rfl (by decide) (.slice none 0 0) 0 [] (World.ownsRow_nil w B e 1) x m c (b.map u8v) (by simp [hm]) hnews (u8v_one b) (by unfold maxLen; omega) (by omega) hbase
      obtain ⟨a', cap', rfl, hh⟩ := own v' w' (by simpa using ho)
      refine ⟨a', cap', w', hr, hh, (Frm.refl _ _).grown hgr (fun k hk => by simp [Value.ownBlock] at hk), ?_⟩
      intro g hg
      obtain ⟨y, rfl, rfl⟩ := mem_blk.1 hg
      right
      rcases hpl with h | h <;> simp [Value.ownBlock] at h
      omega
    · by_cases hroom : n + m ≤ cap
      · have hr := run_append_room (P := P) w t ty e i ht hi g n cap cur hg x m c (b.map u8v) (by simp [hm, hsize]) hnews (u8v_one b) hroom (by simp [hsize]; omega)
        refine ⟨_, _, _, hr, .inr ⟨g, _, rfl, hb, setRow_heap w g cur _ e _ hg, by simp; omega, h2, ?_, ?_⟩, ⟨rfl, rfl, rfl, by simp, fun k _ hk => setRow_other w g k _ (fun e => hk (by simp [e]))⟩, fun g hg => .inl hg⟩
        · simp only [List.size_toArray, List.length_append, List.length_take, List.length_drop, Array.length_toList, List.length_map, hsize]
          omega
        · have e1 : (l ++ b).length = (l.map u8v ++ b.map u8v).length := by simp
          rw [hsize, Nat.mul_one, hn, htk, e1, List.map_append]
          exact List.take_left
      · have holds : ∀ j u, (l.map u8v)[j]? = some u → w.cell? ((⟨g, 0, none⟩ : Addr).add j) = some u := by
          intro j u hu
          rw [addr_add, Nat.zero_add, cell_of_row w g j cur e (0, 0) hg]
          rw [← htk, List.getElem?_take] at hu
          split at hu
          · simpa using hu
          · cases hu
        obtain ⟨v', w', hr, ho, hgr⟩ := run_append_arg_grows (P := P) w t ty e i (.int .u8 0) 1 1 ht hi hz hsize hby rfl (by decide) ⟨g, 0, none⟩ n cap (l.map u8v) (by simp [hn]) holds x m c (b.map u8v) (by simp [hm]) hnews (by omega) (by unfold maxLen; omega) (by omega)
        rcases ho.2 with ⟨hv, h0⟩ | ⟨g', cap', cur', hv, hb', hg', hnc, hcm, hcs, ht'⟩
        · omega
        · subst hv
          have hgs : g' < w'.heap.size := lt_of_block hg'
          have ho' : w'.ownsRow B e 1 (.slice (some ⟨g', 0, none⟩) (n + m) cap') (n + m) ((l ++ b).map u8v) := by
            rw [List.map_append]
            exact ⟨ho.1, .inr ⟨g', cap', cur', rfl, by omega, hg', hnc, hcm, hcs, ht'⟩⟩
          exact ⟨_, _, _, hr, (Hd.ofOwn ho').2, (Frm.refl _ _).grown hgr (fun k hk => by cases hk), fun k hk => .inr (by simp at hk; omega)⟩
theorem step_happ {ops : Array Oper} {o : Oper} {a : Act} {K : Act → World → Prop} {Q : Exit → Act → World → Prop} {E : Prop} (hgd : o.guard = none) (s x : Operand) (t : TypeId)
    (ho : o.op = .call { callee := .builtin .append, args := #[s, x], argTypes := #[t, t] })
    (B : Nat) (e : TypeId) (i : TypeInfo) (ht : P.underlying t = some (.slice e)) (hi : P.info? e = some i) (hz : i.zero = some (.int .u8 0))
    (hsize : i.size = 1) (hby : i.bytes = 1) (sa : Option Addr) (n cap : Nat) (l : List Nat) (hs : a.eval s = .slice sa n cap) (hh : Hd w B e sa cap l) (hn : n = l.length)
    (ad : Option Addr) (m c : Nat) (b : List Nat) (hx : a.eval x = .slice ad m c) (hB : Bytes w ad b) (hm : m = b.length) (hnil : ad = none → c = 0)
    (hfit : n + m ≤ 140737488355328) (hbase : B ≤ w.heap.size)
    (h : ∀ a' cap' w', HApp w w' B e sa l b a' cap' → K (a.put o.dst (.slice a' (n + m) cap')) w') :
    if Region.wanted o (yielded ops a.tmps) = true then Oper.wp P o a w K Q else E := by
  have hw : Region.wanted o (yielded ops a.tmps) = true := by simp [Region.wanted, hgd]
  rw [if_pos hw]
  obtain ⟨a', cap', w', hr, h2⟩ := run_happ (P := P) B t o.type e i ht hi hz hsize hby sa n cap l hh hn ad m c b hB hm hnil hfit hbase
  unfold Oper.wp execOp
  simp only [ho, resolve, invoke, builtin, Sem.run_bind, Sem.run_pure, Result.andThen_ok, List.map_toArray, List.map_cons, List.map_nil, hs, hx, hr]
  exact h a' cap' w' h2
end

section
variable {P : Program} {t e : TypeId}
theorem head_map (a : Option Addr) : a.map (·.add 0) = a := by
  cases a with
  | none => rfl
  | some x => simp [Addr.add]
/-- 'x[:n]' and 'x[:n:m]'. -/
theorem run_head_h (ht : P.underlying t = some (.slice e)) (hz : ∀ w, (Go.sizeOf e).run P w = .ok 1 w) (w : World) (a : Option Addr) (n cap hi : Nat) (h2 : hi ≤ cap) :
    (Instr.slice t (.slice a n cap) none (some (.int .i64 (hi : Nat))) none).run P w = .ok (.slice a hi cap) w := by
  have ht' : P.underlying t = some (.slice (P.elem t)) := by simp [Program.elem, ht]
  have he : P.elem t = e := by simp [Program.elem, ht]
  rw [run_slice_h w t _ _ _ ht' .i64 _ (by omega) (by omega), he, hz]
  have := head_map a
  simp [Result.andThen, sliced, this]
theorem run_head_hm (ht : P.underlying t = some (.slice e)) (hz : ∀ w, (Go.sizeOf e).run P w = .ok 1 w) (w : World) (a : Option Addr) (n cap hi mx : Nat) (h2 : hi ≤ mx) (h3 : mx ≤ cap) :
    (Instr.slice t (.slice a n cap) none (some (.int .i64 (hi : Nat))) (some (.int .i64 (mx : Nat)))).run P w = .ok (.slice a hi mx) w := by
  have ht' : P.underlying t = some (.slice (P.elem t)) := by simp [Program.elem, ht]
  have he : P.elem t = e := by simp [Program.elem, ht]
  rw [run_slice_hm w t _ _ _ ht' .i64 .i64 _ _ (by omega) (by omega) (by omega), he, hz]
  have := head_map a
  simp [Result.andThen, sliced, this]
end
end Go.Proofs.YtcbpppdmkhpkkaaGreat
/- The disk in memory: what a Disk reads as (Dk); contract of all. -/
namespace Go.Proofs.YtcbpppdmkhpkkaaGreat
open Go.RowKit

/-- The Disk at p, with a row. -/
structure DkOn (w : World) (B p r : Nat) (a : Option Addr) (cap : Nat) (l : List Nat) (s room : Nat) : Prop where
  disk : Whole w p 110 #[.pointer (some ⟨r, 0, none⟩), .int .i64 (l.length : Nat), .int .i64 (s : Nat), .int .i64 (room : Nat)]
  row : Whole w r 161 #[.slice a l.length cap]
  head : Hd w B 5 a cap l
  hr : B ≤ r

/-- The Disk at block p has the bytes l, the first s of them sure, and room for so many; its blocks, all from B on, are F. -/
def Dk (w : World) (B p : Nat) (F : List Nat) (l : List Nat) (s room : Nat) : Prop :=
  ((∀ c ∈ l, c < 256) ∧ B ≤ p ∧ s ≤ l.length ∧ l.length ≤ room ∧ room ≤ 16777216) ∧
  ((l = [] ∧ F = [p] ∧ Whole w p 110 #[.pointer none, .int .i64 0, .int .i64 0, .int .i64 (room : Nat)]) ∨
   ∃ r a cap, DkOn w B p r a cap l s room ∧ F = p :: r :: blk a)

theorem sizeU8 : ∀ w, (Go.sizeOf 5).run Tryz.prog w = .ok 1 w := fun _ => by kernel_rfl

theorem all_nil (p room : Nat) (w : World) (hp : Whole w p 110 #[.pointer none, .int .i64 0, .int .i64 0, .int .i64 (room : Nat)]) :
    Calls Tryz.prog 85 #[.pointer (some ⟨p, 0, none⟩)] w fun e w' => e = .returned (.slice none 0 0) ∧ w = w' := by
  have c0 := hp.cell 0
  simp at c0
  clear hp
  go_enter Tryz.func85, Tryz.ntmps85
  go_wp2
  go_ret
  exact ⟨rfl, rfl⟩

def AllEnd (w : World) (a : Option Addr) (k cap : Nat) (e : Ending) (w' : World) : Prop := e = .returned (.slice a k cap) ∧ ∃ n, w' = w.drewN n

theorem all_on (p r : Nat) (a : Option Addr) (k cap s room : Nat) (w : World)
    (hp : Whole w p 110 #[.pointer (some ⟨r, 0, none⟩), .int .i64 (k : Nat), .int .i64 (s : Nat), .int .i64 (room : Nat)]) (hr : Whole w r 161 #[.slice a k cap]) (hk : k ≤ cap) :
    Calls Tryz.prog 85 #[.pointer (some ⟨p, 0, none⟩)] w (AllEnd w a k cap) := by
  have c0 := hp.cell 0
  have c1 := hp.cell 1
  have cr := hr.cell 0
  simp at c0 c1 cr
  have hcut := fun w => run_head_h Tryz.underlying36 sizeU8 w a k cap k hk
  clear hp hr
  go_enter Tryz.func85, Tryz.ntmps85
  go_wp2
  go_quiet (fail)
  go_wp2
  go_ret
  exact ⟨rfl, _, rfl⟩
end Go.Proofs.YtcbpppdmkhpkkaaGreat
/- Contract of cut: just the first n bytes, as sure as they were. -/
namespace Go.Proofs.YtcbpppdmkhpkkaaGreat
open Go.RowKit

/-- What a change of the disk leaves: the bytes l', s' of them sure. -/
def DkTo (w w' : World) (B p : Nat) (F : List Nat) (l' : List Nat) (s' room : Nat) : Prop :=
  ∃ F', Dk w' B p F' l' s' room ∧ Frm F w w' ∧ ∀ x ∈ F', x ∈ F ∨ w.heap.size ≤ x
/-- What cut leaves: there is a row now. -/
def CutTo (w w' : World) (B p : Nat) (F : List Nat) (l' : List Nat) (s' room : Nat) : Prop :=
  ∃ r a cap, DkOn w' B p r a cap l' s' room ∧ ((∀ c ∈ l', c < 256) ∧ B ≤ p ∧ s' ≤ l'.length ∧ l'.length ≤ room ∧ room ≤ 16777216) ∧ Frm F w w' ∧ ∀ x ∈ p :: r :: blk a, x ∈ F ∨ w.heap.size ≤ x
theorem CutTo.dk {w w' : World} {B p : Nat} {F l' : List Nat} {s' room : Nat} (h : CutTo w w' B p F l' s' room) : DkTo w w' B p F l' s' room := by
  obtain ⟨r, a, cap, hon, hs, hf, hF⟩ := h
  exact ⟨_, ⟨hs, .inr ⟨r, a, cap, hon, rfl⟩⟩, hf, hF⟩
def CutEnd (w : World) (B p : Nat) (F : List Nat) (l' : List Nat) (s' room : Nat) (e : Ending) (w' : World) : Prop := e = .returned (.tuple #[]) ∧ CutTo w w' B p F l' s' room
def DkEnd (w : World) (B p : Nat) (F : List Nat) (l' : List Nat) (s' room : Nat) (e : Ending) (w' : World) : Prop := e = .returned (.tuple #[]) ∧ DkTo w w' B p F l' s' room

theorem Whole.drewN {w : World} {g : Nat} {t : TypeId} {cs : Array Value} (h : Whole w g t cs) (n : Nat) : Whole (w.drewN n) g t cs := h
theorem hd_ne {w : World} {B : Nat} {a : Option Addr} {cap : Nat} {l : List Nat} {g : Nat} {t : TypeId} {cs : Array Value} (h : Hd w B 5 a cap l) (hg : Whole w g t cs) (hne : 5 ≠ t) : g ∉ blk a := by
  intro hm
  rcases h with ⟨rfl, _⟩ | ⟨g', cur, rfl, _, hh, _⟩
  · simp at hm
  · simp at hm
    subst hm
    exact Whole.ne (t := 5) hh hg hne rfl

/-- What cut's three stores leave. -/
theorem cut_end {w : World} {B p : Nat} {F : List Nat} {a : Option Addr} {n m room : Nat} {l' : List Nat} {x0 x1 x2 : Value} (q : Nat) (hp : Whole w p 110 #[x0, x1, x2, .int .i64 (room : Nat)])
    (hh : Hd w B 5 a n l') (hl : l'.length = n) (h8 : ∀ c ∈ l', c < 256) (hB : B ≤ p) (hm : m ≤ n) (hnr : n ≤ room) (hroom : room ≤ 16777216) (hpF : p ∈ F) (haF : ∀ g ∈ blk a, g ∈ F) :
    CutTo w (((((w.drewN q).alloc (.cells #[.slice a n n] 161)).setCell ⟨p, 0, none⟩ (.pointer (some ⟨w.heap.size, 0, none⟩))).setCell ⟨p, 1, none⟩ (.int .i64 (n : Nat))).setCell ⟨p, 2, none⟩ (.int .i64 (m : Nat))) B p F l' m room := by
  have hplt := hp.lt
  have hne : p ∉ blk a := hd_ne hh hp (by decide)
  have hp1 := (((hp.drewN q).alloc (.cells #[.slice a n n] 161)).put 0 (.pointer (some ⟨w.heap.size, 0, none⟩))).put 1 (.int .i64 (n : Nat)) |>.put 2 (.int .i64 (m : Nat))
  have hr0 : Whole ((w.drewN q).alloc (.cells #[.slice a n n] 161)) w.heap.size 161 #[.slice a n n] := Whole.made (w.drewN q) 161 #[.slice a n n]
  have hr1 := ((hr0.other (p := ⟨p, 0, none⟩) (by simp; omega) (.pointer (some ⟨w.heap.size, 0, none⟩))).other (p := ⟨p, 1, none⟩) (by simp; omega) (.int .i64 (n : Nat))).other (p := ⟨p, 2, none⟩) (by simp; omega) (.int .i64 (m : Nat))
  have hf : Frm [p] w (((((w.drewN q).alloc (.cells #[.slice a n n] 161)).setCell ⟨p, 0, none⟩ (.pointer (some ⟨w.heap.size, 0, none⟩))).setCell ⟨p, 1, none⟩ (.int .i64 (n : Nat))).setCell ⟨p, 2, none⟩ (.int .i64 (m : Nat))) :=
    (((((Frm.refl [p] w).drewN q).alloc _).setCell (.inl (by simp)) _).setCell (.inl (by simp)) _).setCell (.inl (by simp)) _
  subst hl
  refine ⟨w.heap.size, a, l'.length, ⟨by simpa using hp1, hr1, hh.keep hf ?_, by omega⟩, ⟨h8, hB, hm, hnr, hroom⟩, hf.weak ?_, ?_⟩
  · intro g hg; simp; rintro rfl; exact hne hg
  · intro x hx; simp at hx; subst hx; exact .inl hpF
  · intro x hx
    simp only [List.mem_cons] at hx
    rcases hx with rfl | rfl | hx
    · exact .inl hpF
    · exact .inr (Nat.le_refl _)
    · exact .inl (haF x hx)

set_option maxHeartbeats 1000000 in
theorem cut_on (B p r : Nat) (a : Option Addr) (cap : Nat) (l : List Nat) (s room n : Nat) (w : World) (h : DkOn w B p r a cap l s room) (hs : (∀ c ∈ l, c < 256) ∧ B ≤ p ∧ s ≤ l.length ∧ l.length ≤ room ∧ room ≤ 16777216) (hn : n ≤ l.length) :
    Calls Tryz.prog 50 #[.pointer (some ⟨p, 0, none⟩), .int .i64 (n : Nat)] w (CutEnd w B p (p :: r :: blk a) (l.take n) (min s n) room) := by
  have hcl := h.head.cap_le
  obtain ⟨k, hk⟩ : ∃ k, k = l.length := ⟨_, rfl⟩
  have hp := h.disk
  have hr := h.row
  rw [← hk] at hp hr hcl
  have hcut := fun w => run_head_hm Tryz.underlying36 sizeU8 w a k cap n n (Nat.le_refl _) (by omega)
  have hn2 : n ≤ 16777216 := by omega
  have hs2 : s ≤ 16777216 := by omega
  have c0 := hp.cell 0
  have c1 := hp.cell 1
  have c2 := hp.cell 2
  have f0 := hp.free 0
  have f1 := hp.free 1
  have f2 := hp.free 2
  simp at c0 c1 c2
  have HS := Lib.hid hs; clear hs
  have HK := Lib.hid hk; clear hk
  have HH := Lib.hid h; clear h
  have HP := Lib.hid hp; clear hp
  have HR := Lib.hid hr; clear hr
  go_enter Tryz.func50, Tryz.ntmps50
  go_wp2_with fail
  refine (all_on p r a k cap s room w HP.out HR.out hcl.1).mono ?_
  rintro e w' ⟨rfl, q, rfl⟩
  clear c0 c1 c2 f0 f1 f2
  have hp2 := (HP.out.drewN q).alloc (.cells #[.slice a n n] 161)
  have c0 := hp2.cell 0
  have c1 := hp2.cell 1
  have c2 := hp2.cell 2
  have f0 := hp2.free 0
  have f1 := hp2.free 1
  have f2 := hp2.free 2
  simp at c0 c1 c2
  clear hp2
  go_wp2
  all_goals
    go_end0
    have hs := HS.out
    have hk := HK.out
    have hl : (l.take n).length = n := by simp; omega
    have h8 : ∀ c ∈ l.take n, c < 256 := fun c hc => hs.1 c (List.mem_of_mem_take hc)
    refine ⟨rfl, ?_⟩
  · rw [show min s n = n by omega]
    exact cut_end q HP.out (HH.out.head.tight n hn) hl h8 hs.2.1 (by omega) (by omega) hs.2.2.2.2 (by simp) (fun g hg => by simp [hg])
  · rw [show min s n = s by omega]
    exact cut_end q HP.out (HH.out.head.tight n hn) hl h8 hs.2.1 (by omega) (by omega) hs.2.2.2.2 (by simp) (fun g hg => by simp [hg])

set_option maxHeartbeats 1000000 in
theorem cut_off (B p room : Nat) (w : World) (hp : Whole w p 110 #[.pointer none, .int .i64 0, .int .i64 0, .int .i64 (room : Nat)]) (hB : B ≤ p) (hroom : room ≤ 16777216) :
    Calls Tryz.prog 50 #[.pointer (some ⟨p, 0, none⟩), .int .i64 0] w (CutEnd w B p [p] [] 0 room) := by
  have hcut := fun w => run_head_hm Tryz.underlying36 sizeU8 w none 0 0 0 0 (Nat.le_refl _) (by omega)
  simp only [Int.natCast_zero] at hcut
  have HP := Lib.hid hp; clear hp
  go_enter Tryz.func50, Tryz.ntmps50
  go_wp2_with fail
  refine (all_nil p room w HP.out).mono ?_
  rintro e w' ⟨rfl, rfl⟩
  have hp2 := HP.out.alloc (.cells #[.slice none 0 0] 161)
  have c0 := hp2.cell 0
  have c1 := hp2.cell 1
  have c2 := hp2.cell 2
  have f0 := hp2.free 0
  have f1 := hp2.free 1
  have f2 := hp2.free 2
  simp at c0 c1 c2
  clear hp2
  go_wp2
  go_end0
  exact ⟨rfl, cut_end 0 HP.out (Hd.nil _ _ _) rfl (by simp) hB (Nat.le_refl _) (by omega) hroom (by simp) (by simp)⟩

/-- cut, whether or not there is a row. -/
theorem cut_any {w : World} {B p : Nat} {F l : List Nat} {s room : Nat} (n : Nat) (h : Dk w B p F l s room) (hn : n ≤ l.length) :
    Calls Tryz.prog 50 #[.pointer (some ⟨p, 0, none⟩), .int .i64 (n : Nat)] w (DkEnd w B p F (l.take n) (min s n) room) := by
  obtain ⟨hs, ⟨rfl, rfl, hp⟩ | ⟨r, a, cap, hon, rfl⟩⟩ := h
  · have hn0 : n = 0 := by simpa using hn
    have hs0 : s = 0 := by simpa using hs.2.2.1
    subst hn0 hs0
    exact (cut_off B p room w hp hs.2.1 hs.2.2.2.2).mono fun _ _ h => ⟨h.1, h.2.dk⟩
  · exact (cut_on B p r a cap l s room n w hon hs hn).mono fun _ _ h => ⟨h.1, h.2.dk⟩
end Go.Proofs.YtcbpppdmkhpkkaaGreat
/- Contract of lay: bytes behind all, not sure. -/
namespace Go.Proofs.YtcbpppdmkhpkkaaGreat
open Go.RowKit

/-- Behind the append: the two stores that are left of lay. -/
theorem lay_end {w w1 : World} {B p r : Nat} {a : Option Addr} {cap : Nat} {l b : List Nat} {s room m k n : Nat} {a' : Option Addr} {cap' : Nat} (h : DkOn w B p r a cap l s room)
    (hs : (∀ c ∈ l, c < 256) ∧ B ≤ p ∧ s ≤ l.length ∧ l.length ≤ room ∧ room ≤ 16777216) (hk : k = l.length) (hn : n = b.length) (h8b : ∀ c ∈ b, c < 256) (hfit : k + n ≤ room)
    (hA : HApp (w.drewN m) w1 B 5 a l b a' cap') :
    CutTo w ((w1.setCell ⟨r, 0, none⟩ (.slice a' (k + n) cap')).setCell ⟨p, 1, none⟩ (.int .i64 ((k : Int) + n))) B p (p :: r :: blk a) (l ++ b) s room := by
  subst hk; subst hn
  have hpr : p ≠ r := h.disk.ne h.row (by decide)
  have hp1 := (show Frm (blk a) w w1 from ⟨hA.frm.os, hA.frm.tape, hA.frm.output, hA.frm.size, hA.frm.block⟩)
  have hpw := hp1.whole h.disk (hd_ne h.head h.disk (by decide))
  have hrw := hp1.whole h.row (hd_ne h.head h.row (by decide))
  have hp2 := (hpw.other (p := ⟨r, 0, none⟩) hpr (.slice a' (l.length + b.length) cap')).put 1 (.int .i64 ((l.length : Int) + b.length))
  have hr2 := (hrw.put 0 (.slice a' (l.length + b.length) cap')).other (p := ⟨p, 1, none⟩) (Ne.symm hpr) (.int .i64 ((l.length : Int) + b.length))
  have hlen : (l ++ b).length = l.length + b.length := List.length_append
  have hf : Frm [p, r] w1 ((w1.setCell ⟨r, 0, none⟩ (.slice a' (l.length + b.length) cap')).setCell ⟨p, 1, none⟩ (.int .i64 ((l.length : Int) + b.length))) :=
    ((Frm.refl _ w1).setCell (.inl (by simp)) _).setCell (.inl (by simp)) _
  have n1 := hd_ne hA.head hpw (by decide)
  have n2 := hd_ne hA.head hrw (by decide)
  refine ⟨r, a', cap', ⟨?_, ?_, hA.head.keep hf ?_, h.hr⟩, ⟨?_, hs.2.1, by omega, by omega, hs.2.2.2.2⟩, hp1.trans hf ?_ ?_, ?_⟩
  · rw [hlen]; simpa using hp2
  · rw [hlen]; simpa using hr2
  · intro g hg hm
    simp at hm
    rcases hm with rfl | rfl
    · exact n1 hg
    · exact n2 hg
  · intro c hc
    rcases List.mem_append.1 hc with h1 | h1
    · exact hs.1 c h1
    · exact h8b c h1
  · intro x hx; simp [hx]
  · intro x hx; left; simp at hx; rcases hx with rfl | rfl <;> simp
  · intro x hx
    simp only [List.mem_cons] at hx
    rcases hx with rfl | rfl | hx
    · simp
    · simp
    · rcases hA.place x hx with h1 | h1
      · left; simp [h1]
      · right; simpa using h1

set_option maxHeartbeats 1000000 in
theorem lay_on (B p r : Nat) (a : Option Addr) (cap : Nat) (l : List Nat) (s room : Nat) (ad : Option Addr) (n c : Nat) (b : List Nat) (w : World) (h : DkOn w B p r a cap l s room)
    (hs : (∀ c ∈ l, c < 256) ∧ B ≤ p ∧ s ≤ l.length ∧ l.length ≤ room ∧ room ≤ 16777216) (hb : Bytes w ad b) (hn : n = b.length) (hnil : ad = none → c = 0) (hfit : l.length + b.length ≤ room) :
    Calls Tryz.prog 86 #[.pointer (some ⟨p, 0, none⟩), .slice ad n c] w (CutEnd w B p (p :: r :: blk a) (l ++ b) s room) := by
  have hpr : p ≠ r := h.disk.ne h.row (by decide)
  have hBw : B ≤ w.heap.size := Nat.le_of_lt (Nat.lt_of_le_of_lt h.hr h.row.lt)
  obtain ⟨i0, hi, hz0, hz1, hz2⟩ := info_parts Tryz.info5
  obtain ⟨k, hk⟩ : ∃ k, k = l.length := ⟨_, rfl⟩
  have hp := h.disk
  have hr := h.row
  rw [← hk] at hp hr
  have hkn : k + n ≤ 16777216 := by omega
  have keep : ∀ (m : Nat) (w1 : World), Frm (blk a) (w.drewN m) w1 → Whole w1 p _ _ ∧ Whole w1 r _ _ := fun m w1 hf =>
    ⟨hf.whole (w := w.drewN m) (by exact hp) (hd_ne h.head hp (by decide)), hf.whole (w := w.drewN m) (by exact hr) (hd_ne h.head hr (by decide))⟩
  have KEEP := Lib.hid keep; clear keep
  have c0 := hp.cell 0
  have c1 := hp.cell 1
  have cr := hr.cell 0
  have fp0 := hp.free 0
  have fp1 := hp.free 1
  have fr := hr.free 0
  simp at c0 c1 cr
  have hlt : decide ((k : Int) < (k : Int)) = false := by simp
  have FIN := Lib.hid (fun (m : Nat) (w1 : World) (a' : Option Addr) (cap' : Nat) => lay_end (w := w) (w1 := w1) (B := B) (p := p) (r := r) (a := a) (cap := cap) (l := l) (b := b) (s := s) (room := room) (m := m) (k := k) (n := n) (a' := a') (cap' := cap') h hs hk hn hb.1 (by omega))
  have HD := Lib.hid h.head; clear h hp hr hs
  have HB := Lib.hid hb; clear hb
  have HN := Lib.hid hn; clear hn
  have HK := Lib.hid hk; clear hk
  go_enter Tryz.func86, Tryz.ntmps86
  go_wp2
  go_quiet (fail)
  go_wp2
  go_region_law ((refine step_happ rfl (.tmp 40) (.tmp 41) 36 rfl B 5 i0 Tryz.underlying36 hi hz0 hz1 hz2 a k cap l rfl HD.out HK.out _ _ _ b rfl ?_ HN.out hnil ?_ ?_ ?_; (exact HB.out); (omega); (exact hBw); intro a' cap' w1 happ; have HA := Lib.hid happ; obtain ⟨hp1, hr1⟩ := KEEP.out _ _ happ.frm; have q0 := hp1.cell 0; have q1 := hr1.cell 0; have q2 := hr1.free 0; simp at q0 q1; clear happ hp1 hr1))
  all_goals
    obtain ⟨hp1, hr1⟩ := KEEP.out _ _ HA.out.frm
    have hp2 := (hp1.other (p := ⟨r, 0, none⟩) hpr (.slice a' (k + n) cap'))
    have hr2 := (hr1.put 0 (.slice a' (k + n) cap'))
    have s0 := hp2.cell 0
    have s1 := hr2.cell 0
    have s2 := hp2.cell 1
    have s3 := hp2.free 1
    simp at s0 s1 s2
    clear hp1 hr1 hp2 hr2
    go_wp2
    go_end0
    exact ⟨rfl, FIN.out _ _ _ _ HA.out⟩

/-- Bytes lie in no block whose first cells are of another kind. -/
theorem bytes_ne4 {w : World} {ad : Option Addr} {b : List Nat} {p : Nat} {t : TypeId} {x0 x1 x2 x3 : Value} (hb : Bytes w ad b) (hp : Whole w p t #[x0, x1, x2, x3])
    (h0 : ∀ n, x0 ≠ .int .u8 n) (h1 : ∀ n, x1 ≠ .int .u8 n) (h2 : ∀ n, x2 ≠ .int .u8 n) (h3 : ∀ n, x3 ≠ .int .u8 n) : b ≠ [] → ∀ x, ad = some x → x.block ≠ p := by
  rintro hne x hx rfl
  rcases hb.2.2 with h | ⟨q, off, hq, hc⟩
  · exact hne h
  · rw [hx] at hq
    cases hq
    have e := hc 0 (by cases b with | nil => exact absurd rfl hne | cons _ _ => simp)
    rw [hp.cell] at e
    simp only [Nat.add_zero] at e
    match off, e with
    | 0, e => exact h0 _ (by simpa using e)
    | 1, e => exact h1 _ (by simpa using e)
    | 2, e => exact h2 _ (by simpa using e)
    | 3, e => exact h3 _ (by simpa using e)
    | n + 4, e => simp at e

set_option maxHeartbeats 1000000 in
theorem lay_off (B p room : Nat) (ad : Option Addr) (n c : Nat) (b : List Nat) (w : World) (hp : Whole w p 110 #[.pointer none, .int .i64 0, .int .i64 0, .int .i64 (room : Nat)])
    (hB : B ≤ p) (hroom : room ≤ 16777216) (hb : Bytes w ad b) (hn : n = b.length) (hnil : ad = none → c = 0) (hfit : b.length ≤ room) :
    Calls Tryz.prog 86 #[.pointer (some ⟨p, 0, none⟩), .slice ad n c] w (CutEnd w B p [p] b 0 room) := by
  have hap := bytes_ne4 hb hp (by simp) (by simp) (by simp) (by simp)
  have HAP := Lib.hid hap; clear hap
  have hBw : B ≤ w.heap.size := Nat.le_of_lt (Nat.lt_of_le_of_lt hB hp.lt)
  obtain ⟨i0, hi, hz0, hz1, hz2⟩ := info_parts Tryz.info5
  have hn2 : n ≤ 16777216 := by omega
  have c0 := hp.cell 0
  have c1 := hp.cell 1
  simp at c0 c1
  have HP := Lib.hid hp; clear hp
  have HB := Lib.hid hb; clear hb
  have HN := Lib.hid hn; clear hn
  have HF := Lib.hid hfit; clear hfit
  go_enter Tryz.func86, Tryz.ntmps86
  go_wp2
  go_quiet (fail)
  go_wp2_with fail
  refine (cut_off B p room _ (by exact HP.out) hB hroom).mono ?_
  rintro e w3 ⟨rfl, r, a, cap, h, hs, hf3, hF3⟩
  clear c0 c1
  have HEAD := Lib.hid (show Frm [p] w w3 from ⟨hf3.os, hf3.tape, hf3.output, hf3.size, hf3.block⟩)
  have HF3 := Lib.hid hF3; clear hF3 hf3
  have hBw3 : B ≤ w3.heap.size := Nat.le_trans hBw HEAD.out.size
  have HB3 : Hid (Bytes w3 ad b) := HEAD.out.bytes' HB.out (fun hne x hx => by simpa using HAP.out hne x hx)
  have hpr : p ≠ r := h.disk.ne h.row (by decide)
  have hp := h.disk
  have hr := h.row
  simp only [List.length_nil, Int.natCast_zero] at hp hr
  have keep : ∀ (m : Nat) (w1 : World), Frm (blk a) (w3.drewN m) w1 → Whole w1 p _ _ ∧ Whole w1 r _ _ := fun m w1 hf =>
    ⟨hf.whole (w := w3.drewN m) (by exact hp) (hd_ne h.head hp (by decide)), hf.whole (w := w3.drewN m) (by exact hr) (hd_ne h.head hr (by decide))⟩
  have KEEP := Lib.hid keep; clear keep
  have c0 := hp.cell 0
  have c1 := hp.cell 1
  have cr := hr.cell 0
  have fp0 := hp.free 0
  have fp1 := hp.free 1
  have fr := hr.free 0
  simp at c0 c1 cr
  have FIN := Lib.hid (fun (m : Nat) (w1 : World) (a' : Option Addr) (cap' : Nat) => lay_end (w := w3) (w1 := w1) (B := B) (p := p) (r := r) (a := a) (cap := cap) (l := []) (b := b) (s := 0) (room := room) (m := m) (k := 0) (n := n) (a' := a') (cap' := cap') h hs rfl HN.out HB3.out.1 (by have := HN.out; have := HF.out; omega))
  have END : Hid (∀ w', CutTo w3 w' B p (p :: r :: blk a) ([] ++ b) 0 room → CutTo w w' B p [p] b 0 room) := by
    rintro w' ⟨r', a', cap', hon, hs', hf, hF⟩
    refine ⟨r', a', cap', hon, hs', HEAD.out.trans hf (by simp) ?_, fun x hx => ?_⟩
    · exact fun x hx => HF3.out x hx
    · rcases hF x hx with h1 | h1
      · exact HF3.out x h1
      · right; have := HEAD.out.size; omega
  have HD := Lib.hid h.head; clear h hp hr hs
  go_wp2
  go_region_law ((refine step_happ rfl (.tmp 40) (.tmp 41) 36 rfl B 5 i0 Tryz.underlying36 hi hz0 hz1 hz2 a 0 cap [] rfl HD.out rfl _ _ _ b rfl ?_ HN.out hnil ?_ ?_ ?_; (exact HB3.out); (omega); (exact hBw3); intro a' cap' w1 happ; have HA := Lib.hid happ; obtain ⟨hp1, hr1⟩ := KEEP.out _ _ happ.frm; have q0 := hp1.cell 0; have q1 := hr1.cell 0; have q2 := hr1.free 0; simp at q0 q1; clear happ hp1 hr1))
  all_goals
    obtain ⟨hp1, hr1⟩ := KEEP.out _ _ HA.out.frm
    have hp2 := (hp1.other (p := ⟨r, 0, none⟩) hpr (.slice a' (0 + n) cap'))
    have hr2 := (hr1.put 0 (.slice a' (0 + n) cap'))
    have s0 := hp2.cell 0
    have s1 := hr2.cell 0
    have s2 := hp2.cell 1
    have s3 := hp2.free 1
    simp at s0 s1 s2 s3
    clear hp1 hr1 hp2 hr2
    go_wp2
    go_end0
    have hfin := FIN.out _ _ _ _ HA.out
    simp at hfin
    exact ⟨rfl, END.out _ (by simpa using hfin)⟩

/-- lay, whether or not there is a row. -/
theorem lay_any {w : World} {B p : Nat} {F l : List Nat} {s room : Nat} (ad : Option Addr) (n c : Nat) (b : List Nat) (h : Dk w B p F l s room) (hb : Bytes w ad b) (hn : n = b.length) (hnil : ad = none → c = 0) (hfit : l.length + b.length ≤ room) :
    Calls Tryz.prog 86 #[.pointer (some ⟨p, 0, none⟩), .slice ad n c] w (DkEnd w B p F (l ++ b) s room) := by
  obtain ⟨hs, ⟨rfl, rfl, hp⟩ | ⟨r, a, cap, hon, rfl⟩⟩ := h
  · have hs0 : s = 0 := by simpa using hs.2.2.1
    subst hs0
    exact (lay_off B p room ad n c b w hp hs.2.1 hs.2.2.2.2 hb hn hnil (by simpa using hfit)).mono fun _ _ h => ⟨h.1, h.2.dk⟩
  · exact (lay_on B p r a cap l s room ad n c b w hon hs hb hn hnil hfit).mono fun _ _ h => ⟨h.1, h.2.dk⟩
end Go.Proofs.YtcbpppdmkhpkkaaGreat
/- Contract of turn: a bit of the last byte. -/
namespace Go.Proofs.YtcbpppdmkhpkkaaGreat
open Go.RowKit

/-- All but the last byte, and the last byte with a bit turned. -/
def flipLast (l : List Nat) (bit : Nat) : List Nat := l.take (l.length - 1) ++ [l.getD (l.length - 1) 0 ^^^ 2 ^ bit]

theorem DkTo.trans {w w1 w2 : World} {B p : Nat} {F l1 l2 : List Nat} {s1 s2 room : Nat} (h1 : DkTo w w1 B p F l1 s1 room) (h2 : ∀ F1, Dk w1 B p F1 l1 s1 room → DkTo w1 w2 B p F1 l2 s2 room) : DkTo w w2 B p F l2 s2 room := by
  obtain ⟨F1, hd1, hf1, hF1⟩ := h1
  obtain ⟨F2, hd2, hf2, hF2⟩ := h2 F1 hd1
  refine ⟨F2, hd2, hf1.trans hf2 (fun x h => h) (fun x hx => hF1 x hx), fun x hx => ?_⟩
  rcases hF2 x hx with h | h
  · exact hF1 x h
  · right; have := hf1.size; omega
theorem DkTo.early {w0 w w' : World} {B p : Nat} {F l : List Nat} {s room : Nat} (h : DkTo w w' B p F l s room) (hf : Frm [] w0 w) : DkTo w0 w' B p F l s room := by
  obtain ⟨F', hd, hF, hx⟩ := h
  refine ⟨F', hd, hf.trans hF (by simp) (fun x hx => .inl hx), fun x h => ?_⟩
  rcases hx x h with h1 | h1
  · exact .inl h1
  · right; have := hf.size; omega
theorem Dk.lt {w : World} {B p : Nat} {F l : List Nat} {s room : Nat} (h : Dk w B p F l s room) : ∀ x ∈ F, B ≤ x ∧ x < w.heap.size := by
  obtain ⟨hs, ⟨rfl, rfl, hp⟩ | ⟨r, a, cap, hon, rfl⟩⟩ := h
  · intro x hx; simp at hx; subst hx; exact ⟨hs.2.1, hp.lt⟩
  · intro x hx
    simp only [List.mem_cons] at hx
    rcases hx with rfl | rfl | hx
    · exact ⟨hs.2.1, hon.disk.lt⟩
    · exact ⟨hon.hr, hon.row.lt⟩
    · exact hon.head.blk_lt x hx
theorem Dk.keep {w w' : World} {B p : Nat} {F S l : List Nat} {s room : Nat} (h : Dk w B p F l s room) (hf : Frm S w w') (hS : ∀ x ∈ F, x ∉ S) : Dk w' B p F l s room := by
  obtain ⟨hs, ⟨rfl, rfl, hp⟩ | ⟨r, a, cap, hon, rfl⟩⟩ := h
  · exact ⟨hs, .inl ⟨rfl, rfl, hf.whole hp (hS p (by simp))⟩⟩
  · exact ⟨hs, .inr ⟨r, a, cap, ⟨hf.whole hon.disk (hS p (by simp)), hf.whole hon.row (hS r (by simp)), hon.head.keep hf (fun g hg => hS g (by simp [hg])), hon.hr⟩, rfl⟩⟩
/-- The disk's size, as the Disk has it. -/
theorem Dk.size {w : World} {B p : Nat} {F l : List Nat} {s room : Nat} (h : Dk w B p F l s room) :
    ∃ x0, Whole w p 110 #[x0, .int .i64 (l.length : Nat), .int .i64 (s : Nat), .int .i64 (room : Nat)] := by
  obtain ⟨hs, ⟨rfl, rfl, hp⟩ | ⟨r, a, cap, hon, rfl⟩⟩ := h
  · have hs0 : s = 0 := by simpa using hs.2.2.1
    subst hs0
    exact ⟨_, hp⟩
  · exact ⟨_, hon.disk⟩

end Go.Proofs.YtcbpppdmkhpkkaaGreat
/- Contracts of the disk's own calls: New, Append, Sync, Cut, Bytes, Sure; of nil ones. -/
namespace Go.Proofs.YtcbpppdmkhpkkaaGreat
open Go.RowKit

def NewEnd (w : World) (room : Nat) (e : Ending) (w' : World) : Prop :=
  e = .returned (.tuple #[.pointer (some ⟨w.heap.size, 0, none⟩), .int .i64 0]) ∧ Dk w' w.heap.size w.heap.size [w.heap.size] [] 0 room ∧ Frm [] w w' ∧ w'.heap.size = w.heap.size + 1
theorem new_ok (room : Nat) (w : World) (h : room ≤ 16777216) : Calls Tryz.prog 22 #[.int .i64 (room : Nat)] w (NewEnd w room) := by
  go_enter Tryz.func22, Tryz.ntmps22
  go_wp2
  go_ret2
  exact ⟨rfl, ⟨⟨by simp, Nat.le_refl _, Nat.le_refl _, Nat.zero_le _, h⟩, .inl ⟨rfl, rfl, Whole.made _ _ _⟩⟩, (Frm.refl _ _).alloc _, by simp⟩

/-- A call of the disk that changes nothing. -/
def Same (w : World) (v : Value) (e : Ending) (w' : World) : Prop := e = .returned v ∧ ∃ n, w' = w.drewN n
/-- A call of the disk that answers v and leaves the bytes l', s' of them sure. -/
def DkRet (w : World) (B p : Nat) (F : List Nat) (l' : List Nat) (s' room : Nat) (v : Value) (e : Ending) (w' : World) : Prop := e = .returned v ∧ DkTo w w' B p F l' s' room

theorem append_full {w : World} {B p : Nat} {F l : List Nat} {s room : Nat} (ad : Option Addr) (n c : Nat) (h : Dk w B p F l s room) (hn : n ≤ 9223372036854775807) (hf : room < l.length + n) :
    Calls Tryz.prog 104 #[.pointer (some ⟨p, 0, none⟩), .slice ad n c] w (Same w (.int .i64 8)) := by
  obtain ⟨x0, hp⟩ := h.size
  have hs := h.1.2.2
  obtain ⟨k, hk⟩ : ∃ k, k = l.length := ⟨_, rfl⟩
  rw [← hk] at hp hf hs
  have c1 := hp.cell 1
  have c3 := hp.cell 3
  simp at c1 c3
  have hsub : IntKind.i64.wrap ((room : Int) - (k : Int)) = (room : Int) - k := IntWalk.i64_in _ (by omega)
  have hd : decide ((room : Int) - (k : Int) < (n : Int)) = true := by simp; omega
  clear hp h hk
  go_enter Tryz.func104, Tryz.ntmps104
  go_wp2
  go_quiet (fail)
  go_wp2
  go_ret
  exact ⟨rfl, _, rfl⟩

theorem append_ok {w : World} {B p : Nat} {F l : List Nat} {s room : Nat} (ad : Option Addr) (n c : Nat) (b : List Nat) (h : Dk w B p F l s room) (hb : Bytes w ad b) (hn : n = b.length) (hnil : ad = none → c = 0) (hf : l.length + b.length ≤ room) :
    Calls Tryz.prog 104 #[.pointer (some ⟨p, 0, none⟩), .slice ad n c] w (DkRet w B p F (l ++ b) s room (.int .i64 0)) := by
  obtain ⟨x0, hp⟩ := h.size
  have hs := h.1.2.2
  obtain ⟨k, hk⟩ : ∃ k, k = l.length := ⟨_, rfl⟩
  rw [← hk] at hp hs
  have hnk : k + n ≤ room := by omega
  have c1 := hp.cell 1
  have c3 := hp.cell 3
  simp at c1 c3
  have hsub : IntKind.i64.wrap ((room : Int) - (k : Int)) = (room : Int) - k := IntWalk.i64_in _ (by omega)
  have hd : decide ((room : Int) - (k : Int) < (n : Int)) = false := by simp; omega
  have H := Lib.hid h
  have HB := Lib.hid hb
  have HN := Lib.hid hn
  have HF := Lib.hid hf
  clear hp h hk hb hn hf
  go_enter Tryz.func104, Tryz.ntmps104
  go_wp2
  go_quiet (fail)
  go_wp2_with fail
  have hfq : Frm [] w (w.drewN nq) := (Frm.refl [] w).drewN nq
  refine (lay_any ad n c b (H.out.keep hfq (by simp)) (hfq.bytes HB.out (by simp)) HN.out hnil HF.out).mono ?_
  rintro e w1 ⟨rfl, hd1⟩
  have HD1 := Lib.hid (hd1.early hfq); clear hd1 hfq
  go_wp2
  go_ret
  exact ⟨rfl, HD1.out⟩

theorem sync_any {w : World} {B p : Nat} {F l : List Nat} {s room : Nat} (h : Dk w B p F l s room) :
    Calls Tryz.prog 52 #[.pointer (some ⟨p, 0, none⟩)] w (DkEnd w B p F l l.length room) := by
  obtain ⟨hs, ⟨rfl, rfl, hp⟩ | ⟨r, a, cap, hon, rfl⟩⟩ := h
  · have c1 := hp.cell 1
    have f2 := hp.free 2
    have c2 := hp.cell 2
    simp at c1 c2
    have HP := Lib.hid hp; clear hp
    have HS := Lib.hid hs; clear hs
    go_enter Tryz.func52, Tryz.ntmps52
    go_wp2
    go_end0
    have hp2 := HP.out.put 2 (.int .i64 0)
    exact ⟨rfl, [p], ⟨⟨by simp, HS.out.2.1, Nat.le_refl _, Nat.zero_le _, HS.out.2.2.2.2⟩, .inl ⟨rfl, rfl, by simpa using hp2⟩⟩, (Frm.refl _ _).setCell (.inl (by simp)) _, fun x hx => .inl hx⟩
  · obtain ⟨k, hk⟩ : ∃ k, k = l.length := ⟨_, rfl⟩
    have hp := hon.disk
    rw [← hk] at hp ⊢
    have c1 := hp.cell 1
    have f2 := hp.free 2
    have c2 := hp.cell 2
    simp at c1 c2
    have HO := Lib.hid hon; clear hon hp
    have HS := Lib.hid hs; clear hs
    have HK := Lib.hid hk; clear hk
    go_enter Tryz.func52, Tryz.ntmps52
    go_wp2
    go_end0
    have hon := HO.out
    have hs := HS.out
    have hk := HK.out
    subst hk
    have hne := hon.disk.ne hon.row (by decide)
    have hp2 := hon.disk.put 2 (.int .i64 (l.length : Nat))
    have hr2 := hon.row.other (p := ⟨p, 2, none⟩) (Ne.symm hne) (.int .i64 (l.length : Nat))
    have hf : Frm [p] w (w.setCell ⟨p, 2, none⟩ (.int .i64 (l.length : Nat))) := (Frm.refl _ _).setCell (.inl (by simp)) _
    have hb := hd_ne hon.head hon.disk (by decide)
    exact ⟨rfl, _, ⟨⟨hs.1, hs.2.1, Nat.le_refl _, hs.2.2.2.1, hs.2.2.2.2⟩, .inr ⟨r, a, cap, ⟨by simpa using hp2, hr2, hon.head.keep hf (fun g hg hm => by simp at hm; subst hm; exact hb hg), hon.hr⟩, rfl⟩⟩, hf.weak (fun x hx => .inl (by simp at hx; simp [hx])), fun x hx => .inl hx⟩

theorem cutm_ok {w : World} {B p : Nat} {F l : List Nat} {s room : Nat} (n : Nat) (h : Dk w B p F l s room) (hn : n ≤ l.length) :
    Calls Tryz.prog 84 #[.pointer (some ⟨p, 0, none⟩), .int .i64 (n : Nat)] w (DkRet w B p F (l.take n) (min s n) room (.int .i64 0)) := by
  obtain ⟨x0, hp⟩ := h.size
  obtain ⟨k, hk⟩ : ∃ k, k = l.length := ⟨_, rfl⟩
  have hnk : n ≤ k := by omega
  rw [← hk] at hp
  have c1 := hp.cell 1
  simp at c1
  have H := Lib.hid h
  have HN := Lib.hid hn
  clear hp h hk hn
  go_enter Tryz.func84, Tryz.ntmps84
  go_wp2_with fail
  refine (cut_any n H.out HN.out).mono ?_
  rintro e w1 ⟨rfl, hd1⟩
  have HD1 := Lib.hid hd1; clear hd1
  go_wp2
  go_ret
  exact ⟨rfl, HD1.out⟩

theorem Own.drewN {w w' : World} {l : List Nat} {e : Ending} {n : Nat} (h : Own (w.drewN n) w' l e) : Own w w' l e := by
  obtain ⟨a', cap', he, ho, hf⟩ := h
  exact ⟨a', cap', he, ho, hf.os, hf.tape, hf.output, hf.size, hf.block⟩

theorem dbytes_any {w : World} {B p : Nat} {F l : List Nat} {s room : Nat} (h : Dk w B p F l s room) :
    Calls Tryz.prog 83 #[.pointer (some ⟨p, 0, none⟩)] w fun e w' => Own w w' l e := by
  obtain ⟨hs, ⟨rfl, rfl, hp⟩ | ⟨r, a, cap, hon, rfl⟩⟩ := h
  · have HP := Lib.hid hp; clear hp hs
    go_enter Tryz.func83, Tryz.ntmps83
    go_wp2_with fail
    refine (all_nil p room w HP.out).mono ?_
    rintro e w' ⟨rfl, rfl⟩
    go_wp2_with fail
    refine (clone_any none 0 0 [] w (⟨by simp, by simp, .inl rfl⟩) rfl (fun _ => rfl) (by omega)).mono ?_
    rintro e w' ⟨a', cap', rfl, ho, hf⟩
    have HO := Lib.hid ho; clear ho
    have HF := Lib.hid hf; clear hf
    go_wp2
    go_ret
    exact ⟨a', cap', rfl, HO.out, HF.out⟩
  · have HO := Lib.hid hon; clear hon
    have HS := Lib.hid hs; clear hs
    obtain ⟨k, hk⟩ : ∃ k, k = l.length := ⟨_, rfl⟩
    have HK := Lib.hid hk; clear hk
    go_enter Tryz.func83, Tryz.ntmps83
    go_wp2_with fail
    refine (all_on p r a k cap s room w (by rw [HK.out]; exact HO.out.disk) (by rw [HK.out]; exact HO.out.row) (by rw [HK.out]; exact HO.out.head.cap_le.1)).mono ?_
    rintro e w' ⟨rfl, q, rfl⟩
    go_wp2_with fail
    refine (clone_any a k cap l (w.drewN q) (((Frm.refl [] w).drewN q).bytes (HO.out.head.bytes HS.out.1) (by simp)) HK.out HO.out.head.none_cap (by have := HS.out.2.2.2; have := HK.out; omega)).mono ?_
    rintro e w' ⟨a', cap', rfl, ho, hf⟩
    have HO2 := Lib.hid ho; clear ho
    have HF := Lib.hid hf; clear hf
    go_wp2
    go_ret
    exact Own.drewN ⟨a', cap', rfl, HO2.out, HF.out⟩

end Go.Proofs.YtcbpppdmkhpkkaaGreat
/- Contract of Crash: some of what isn't sure stays, a bit of its last byte may be turned; what stays is sure. -/
namespace Go.Proofs.YtcbpppdmkhpkkaaGreat
open Go.RowKit

/-- How many bytes that aren't sure are kept. -/
def keptN (l : List Nat) (s : Nat) (keep : Int) : Nat := min keep.toNat (l.length - s)
/-- What is left behind a crash. -/
def crashed (l : List Nat) (s : Nat) (keep bit : Int) : List Nat :=
  if 0 < keptN l s keep ∧ 0 ≤ bit ∧ bit ≤ 7 then flipLast (l.take (s + keptN l s keep)) bit.toNat else l.take (s + keptN l s keep)

end Go.Proofs.YtcbpppdmkhpkkaaGreat
/- Plain mathematics of records on a disk: the frames with which bytes begin (recs), how many bytes they are (recN); frames one behind the other (allF), cut anywhere, a bit of the last byte turned. -/
namespace Go.Proofs.YtcbpppdmkhpkkaaGreat

theorem uY_lt {l : List Nat} (h : uC l = 0) : (uY l).length < l.length := by
  have := u_ok h; omega
/-- The bodies of the frames with which bytes begin. -/
def recs (l : List Nat) : List (List Nat) := if _h : uC l = 0 then uX l :: recs (uY l) else []
termination_by l.length
decreasing_by exact uY_lt _h
/-- How many bytes these frames are. -/
def recN (l : List Nat) : Nat := if _h : uC l = 0 then 8 + (uX l).length + recN (uY l) else 0
termination_by l.length
decreasing_by exact uY_lt _h
theorem recs_stop {l : List Nat} (h : uC l ≠ 0) : recs l = [] := by rw [recs, dif_neg h]
theorem recs_go {l : List Nat} (h : uC l = 0) : recs l = uX l :: recs (uY l) := by rw [recs, dif_pos h]
theorem recN_stop {l : List Nat} (h : uC l ≠ 0) : recN l = 0 := by rw [recN, dif_neg h]
theorem recN_go {l : List Nat} (h : uC l = 0) : recN l = 8 + (uX l).length + recN (uY l) := by rw [recN, dif_pos h]

/-- Bytes that a frame begins are the frame of the body and what is left. -/
theorem u_whole {l : List Nat} (h8 : ∀ c ∈ l, c < 256) (h : uC l = 0) : l = fr (uX l) ++ uY l ∧ (uX l).length ≤ 4096 := by
  obtain ⟨h1, h2, h3, h4, h5⟩ := u_ok h
  have hv : val (l.take 4) ≤ 4096 := by
    unfold uC at h
    repeat (split at h; first | (exfalso; omega) | skip)
    all_goals omega
  have hs : sumN ((l.drop 8).take (val (l.take 4))) = val ((l.drop 4).take 4) := by
    unfold uC at h
    repeat (split at h; first | (exfalso; omega) | skip)
    all_goals first | assumption | (exfalso; omega)
  have b1 : be 4 (val (l.take 4)) = l.take 4 := by
    have := be_val (l.take 4) (fun c hc => h8 c (List.mem_of_mem_take hc))
    rwa [List.length_take, Nat.min_eq_left (by omega)] at this
  have b2 : be 4 (val ((l.drop 4).take 4)) = (l.drop 4).take 4 := by
    have := be_val ((l.drop 4).take 4) (fun c hc => h8 c (List.mem_of_mem_drop (List.mem_of_mem_take hc)))
    rwa [List.length_take, List.length_drop, Nat.min_eq_left (by omega)] at this
  refine ⟨?_, by omega⟩
  unfold fr
  rw [h4, b1, h2, hs, b2, h3]
  have e1 : l.drop 8 = (l.drop 8).take (val (l.take 4)) ++ l.drop (8 + val (l.take 4)) := by
    rw [← List.drop_drop]; exact (List.take_append_drop _ _).symm
  have e2 : l.drop 4 = (l.drop 4).take 4 ++ l.drop 8 := by
    have := (List.take_append_drop 4 (l.drop 4)).symm
    rwa [List.drop_drop] at this
  have e3 : l = l.take 4 ++ l.drop 4 := (List.take_append_drop 4 l).symm
  conv => lhs; rw [e3, e2, e1]
  simp [List.append_assoc]

theorem recs_fr {b : List Nat} (m : List Nat) (h : b.length ≤ 4096) (h8 : ∀ c ∈ b, c < 256) : recs (fr b ++ m) = b :: recs m ∧ recN (fr b ++ m) = (fr b).length + recN m := by
  obtain ⟨h0, hx, hy⟩ := u_frame m h h8
  exact ⟨by rw [recs_go h0, hx, hy], by rw [recN_go h0, hx, hy, fr_length]; omega⟩

/-- Frames, one behind the other. -/
def allF (M : List (List Nat)) : List Nat := (M.map fr).flatten
theorem allF_cons (b : List Nat) (M : List (List Nat)) : allF (b :: M) = fr b ++ allF M := rfl
theorem allF_append (M N : List (List Nat)) : allF (M ++ N) = allF M ++ allF N := by unfold allF; simp
theorem allF_one (b : List Nat) : allF [b] = fr b := by simp [allF]
/-- Bodies that fit in frames. -/
def Fit (M : List (List Nat)) : Prop := ∀ b ∈ M, b.length ≤ 4096 ∧ ∀ c ∈ b, c < 256
theorem Fit.cons {b : List Nat} {M : List (List Nat)} (h : Fit (b :: M)) : (b.length ≤ 4096 ∧ ∀ c ∈ b, c < 256) ∧ Fit M := ⟨h b (by simp), fun x hx => h x (by simp [hx])⟩
theorem Fit.append {M N : List (List Nat)} (h : Fit M) (k : Fit N) : Fit (M ++ N) := fun b hb => (List.mem_append.1 hb).elim (h b) (k b)
theorem Fit.one {b : List Nat} (h : b.length ≤ 4096) (h8 : ∀ c ∈ b, c < 256) : Fit [b] := fun x hx => by simp at hx; subst hx; exact ⟨h, h8⟩
theorem recs_all (M : List (List Nat)) (m : List Nat) (h : Fit M) : recs (allF M ++ m) = M ++ recs m ∧ recN (allF M ++ m) = (allF M).length + recN m := by
  induction M with
  | nil => simp [allF]
  | cons b M ih =>
    obtain ⟨⟨h1, h2⟩, h3⟩ := h.cons
    have ih := ih h3
    have e := recs_fr (allF M ++ m) h1 h2
    rw [allF_cons, List.append_assoc, e.1, e.2, ih.1, ih.2]
    simp; omega
theorem short_stop {l : List Nat} (h : l.length < 8) : uC l ≠ 0 := by unfold uC; rw [if_pos h]; decide
theorem recs_nil : recs [] = [] ∧ recN [] = 0 := ⟨recs_stop (short_stop (by simp)), recN_stop (short_stop (by simp))⟩
theorem recs_all' (M : List (List Nat)) (h : Fit M) : recs (allF M) = M ∧ recN (allF M) = (allF M).length := by
  have := recs_all M [] h
  simpa [recs_nil.1, recs_nil.2] using this
/-- What the frames are: they alone, one behind the other. -/
theorem recs_whole (l : List Nat) (h8 : ∀ c ∈ l, c < 256) : l.take (recN l) = allF (recs l) ∧ Fit (recs l) ∧ recN l = (allF (recs l)).length ∧ recN l ≤ l.length := by
  generalize hn : l.length = n
  induction n using Nat.strongRecOn generalizing l with
  | _ n ih =>
    by_cases h : uC l = 0
    · obtain ⟨hw, hl⟩ := u_whole h8 h
      have hy8 : ∀ c ∈ uY l, c < 256 := fun c hc => h8 c (by rw [hw]; simp [hc])
      have hx8 : ∀ c ∈ uX l, c < 256 := fun c hc => h8 c (by rw [hw]; simp [fr, hc])
      obtain ⟨i1, i2, i3, i4⟩ := ih _ (by have := uY_lt h; omega) (uY l) hy8 rfl
      have hlen : (fr (uX l)).length = 8 + (uX l).length := by rw [fr_length]; omega
      have ht : l.take (recN l) = fr (uX l) ++ (uY l).take (recN (uY l)) := by
        have key : ∀ (x y l : List Nat) (n : Nat), l = x ++ y → l.take (x.length + n) = x ++ y.take n := by
          rintro x y _ n rfl
          rw [List.take_length_add_append]
        rw [recN_go h, ← hlen]
        exact key _ _ _ _ hw
      refine ⟨?_, ?_, ?_, ?_⟩
      · rw [ht, i1, recs_go h, allF_cons]
      · rw [recs_go h]
        intro b hb
        rcases List.mem_cons.1 hb with h1 | h1
        · subst h1; exact ⟨hl, hx8⟩
        · exact i2 b h1
      · rw [recs_go h, allF_cons, List.length_append, ← i3, recN_go h, hlen]
      · have h1 : l.length = (fr (uX l)).length + (uY l).length := by conv => lhs; rw [hw]; rw [List.length_append]
        rw [recN_go h]; omega
    · rw [recN_stop h, recs_stop h]
      exact ⟨by simp [allF], fun b hb => by simp at hb, by simp [allF], by omega⟩

end Go.Proofs.YtcbpppdmkhpkkaaGreat
/- Rows of one-cell values that the call made itself; appending values to them. Slices of slices of bytes: what they read as (LL), rows of the call's own (OwnL), and what stays of them. They speak of no program. -/
namespace Go.Proofs.YtcbpppdmkhpkkaaGreat
open Go.RowKit

/-- These values lie there, cell by cell. -/
def ValsAt (w : World) (x : Option Addr) (us : List Value) : Prop := us = [] ∨ ∃ b off, x = some ⟨b, off, none⟩ ∧ ∀ i u, us[i]? = some u → w.cell? ⟨b, off + i, none⟩ = some u
theorem ValsAt.nil (w : World) (x : Option Addr) : ValsAt w x [] := .inl rfl
theorem ValsAt.one (w : World) (v : Value) (t : TypeId) : ValsAt (w.alloc (.cells #[v] t)) (some ⟨w.heap.size, 0, none⟩) [v] := by
  refine .inr ⟨_, _, rfl, fun i u hu => ?_⟩
  rw [(Whole.made w t #[v]).cell]
  rw [Nat.zero_add]
  simpa using hu
theorem ValsAt.keep {S : List Nat} {w w' : World} {x : Option Addr} {us : List Value} (h : ValsAt w x us) (hf : Frm S w w') (hn : us ≠ [] → ∀ y, x = some y → y.block ∉ S) : ValsAt w' x us := by
  rcases h with h | ⟨b, off, rfl, hc⟩
  · exact .inl h
  · by_cases h0 : us = []
    · exact .inl h0
    · refine .inr ⟨b, off, rfl, fun i u hu => ?_⟩
      have e := hc i u hu
      exact (hf.cell (p := ⟨b, off + i, none⟩) (block_lt_of_cell e) (hn h0 ⟨b, off, none⟩ rfl)).trans e

section
variable {P : Program} {w : World}
/-- What appending the values us to an owned value leaves. -/
structure AppV (w w' : World) (base : Nat) (e : TypeId) (v : Value) (n m : Nat) (xs us : List Value) (a' : Option Addr) (cap' : Nat) : Prop where
  own : w'.ownsRow base e 1 (.slice a' (n + m) cap') (n + m) (xs ++ us)
  grown : w.grownBy w' v.ownBlock
  place : (Value.slice a' (n + m) cap').ownBlock = v.ownBlock ∨ (Value.slice a' (n + m) cap').ownBlock = some w.heap.size

theorem run_appV (base : Nat) (t ty e : TypeId) (i : TypeInfo) (z : Value) (by' : Nat) (ht : P.underlying t = some (.slice e)) (hi : P.info? e = some i) (hz : i.zero = some z) (hz1 : z.cells.size = 1)
    (hsize : i.size = 1) (hby : i.bytes = by') (hb24 : by' ≤ 100) (v : Value) (n : Nat) (xs : List Value) (hown : w.ownsRow base e 1 v n xs)
    (ad : Option Addr) (m c : Nat) (us : List Value) (hB : ValsAt w ad us) (hm : m = us.length) (hone : ∀ u ∈ us, u.oneCell' = true) (hnil : ad = none → c = 0)
    (hfit : n + m ≤ 1000000000) (hbase : base ≤ w.heap.size) :
    ∃ a' cap' w', (Builtin.append_ #[t, t] ty #[v, .slice ad m c]).run P w = .ok (.slice a' (n + m) cap') w' ∧ AppV w w' base e v n m xs us a' cap' := by
  have shape : ∀ (v' : Value) (w' : World) (k : Nat) (ys : List Value), w'.ownsRow base e 1 v' k ys → ∃ a' cap', v' = .slice a' k cap' := by
    intro v' w' k ys h
    rcases h.2 with ⟨hv, h0⟩ | ⟨g, cap', cur, hv, _⟩
    · exact ⟨none, 0, by rw [hv, h0]⟩
    · exact ⟨_, cap', hv⟩
  cases ad with
  | none =>
    have hc0 := hnil rfl
    subst hc0
    have hl0 : us = [] := by
      rcases hB with h | ⟨_, _, h, _⟩
      · exact h
      · cases h
    subst hl0
    have hm0 : m = 0 := by simpa using hm
    subst hm0
    obtain ⟨a', cap', hv⟩ := shape v w n xs hown
    subst hv
    exact ⟨a', cap', w, run_append_owned_none (P := P) (w := w) base t ty e i 1 ht hi _ n xs hown, by simpa using hown, World.grownBy.refl _ _, .inl rfl⟩
  | some x =>
    have hnews : ∀ j u, us[j]? = some u → w.cell? (x.add j) = some u := by
      rcases hB with h | ⟨b, off, h, hh⟩
      · subst h; intro j u hu; simp at hu
      · cases h
        intro j u hu
        rw [addr_add]
        exact hh j u hu
    obtain ⟨v', w', hr, ho, hg, _, hpl⟩ := run_append_own_at (P := P) w base t ty e i z 1 by' ht hi hz hsize hby hz1 (by decide) v n xs hown x m c us (by simp [hm]) hnews hone (by unfold maxLen; omega)
      (by have := Nat.mul_le_mul hfit hb24; omega) hbase
    obtain ⟨a', cap', hv⟩ := shape v' w' (n + m) _ ho
    subst hv
    exact ⟨a', cap', w', hr, ho, hg, hpl⟩

theorem wpList_appV {ops : Array Oper} {rest : List Oper} {o : Oper} {a : Act} {Q : Exit → Act → World → Prop} (hgd : o.guard = none) (s x : Operand) (t : TypeId)
    (ho : o.op = .call { callee := .builtin .append, args := #[s, x], argTypes := #[t, t] })
    (base : Nat) (e : TypeId) (i : TypeInfo) (z : Value) (by' : Nat) (ht : P.underlying t = some (.slice e)) (hi : P.info? e = some i) (hz : i.zero = some z) (hz1 : z.cells.size = 1)
    (hsize : i.size = 1) (hby : i.bytes = by') (hb24 : by' ≤ 100) (v : Value) (n : Nat) (xs : List Value) (hs : a.eval s = v) (hown : w.ownsRow base e 1 v n xs)
    (ad : Option Addr) (m c : Nat) (us : List Value) (hx : a.eval x = .slice ad m c) (hB : ValsAt w ad us) (hm : m = us.length) (hone : ∀ u ∈ us, u.oneCell' = true) (hnil : ad = none → c = 0)
    (hfit : n + m ≤ 1000000000) (hbase : base ≤ w.heap.size)
    (h : ∀ a' cap' w', AppV w w' base e v n m xs us a' cap' → wpList P ops Q rest (a.put o.dst (.slice a' (n + m) cap')) w') : wpList P ops Q (o :: rest) a w := by
  refine wpList_plain hgd fun K hK => ?_
  obtain ⟨a', cap', w', hr, h2⟩ := run_appV (P := P) base t o.type e i z by' ht hi hz hz1 hsize hby hb24 v n xs hown ad m c us hB hm hone hnil hfit hbase
  unfold Oper.wp execOp
  simp only [ho, resolve, invoke, builtin, Sem.run_bind, Sem.run_pure, Result.andThen_ok, List.map_toArray, List.map_cons, List.map_nil, hs, hx, hr]
  exact hK _ _ (h a' cap' w' h2)

end

/-- Values that are slices of bytes, and what they read as; what isn't empty lies outside the blocks F. -/
structure Ents (w : World) (F : List Nat) (vs : List Value) (L : List (List Nat)) : Prop where
  len : vs.length = L.length
  ent : ∀ i, i < L.length → ∃ a cap, vs[i]? = some (.slice a (L.getD i []).length cap) ∧ Bytes w a (L.getD i []) ∧ (L.getD i [] ≠ [] → ∀ x, a = some x → x.block ∉ F) ∧ (a = none → cap = 0)
theorem Ents.nil (w : World) (F : List Nat) : Ents w F [] [] := ⟨rfl, fun i h => absurd h (by simp)⟩
theorem Ents.one' {w : World} {F : List Nat} {vs : List Value} {L : List (List Nat)} (h : Ents w F vs L) : ∀ u ∈ vs, u.oneCell' = true := by
  intro u hu
  obtain ⟨i, hi, e⟩ := List.getElem_of_mem hu
  obtain ⟨a, cap, h1, _⟩ := h.ent i (by rw [← h.len]; exact hi)
  rw [List.getElem?_eq_getElem hi, e] at h1
  cases h1
  rfl
theorem Ents.keep {w w' : World} {F F' S : List Nat} {vs : List Value} {L : List (List Nat)} (h : Ents w F vs L) (hf : Frm S w w') (hS : ∀ x ∈ S, x ∈ F ∨ w.heap.size ≤ x) (hF : ∀ x ∈ F', x ∈ F ∨ w.heap.size ≤ x) : Ents w' F' vs L := by
  refine ⟨h.len, fun i hi => ?_⟩
  obtain ⟨a, cap, h1, h2, h3, h4⟩ := h.ent i hi
  refine ⟨a, cap, h1, hf.bytes' h2 (fun hne x hx hm => ?_), fun hne x hx hm => ?_, h4⟩
  · rcases hS _ hm with h | h
    · exact h3 hne x hx h
    · have := bytes_lt h2 hne x hx; omega
  · rcases hF _ hm with h | h
    · exact h3 hne x hx h
    · have := bytes_lt h2 hne x hx; omega
theorem Ents.append {w : World} {F : List Nat} {vs us : List Value} {L M : List (List Nat)} (h : Ents w F vs L) (k : Ents w F us M) : Ents w F (vs ++ us) (L ++ M) := by
  refine ⟨by simp [h.len, k.len], fun i hi => ?_⟩
  by_cases hl : i < L.length
  · obtain ⟨a, cap, h1, h2, h3⟩ := h.ent i hl
    have e : (L ++ M).getD i [] = L.getD i [] := by simp [List.getD, List.getElem?_append, hl]
    rw [e]
    exact ⟨a, cap, by rw [List.getElem?_append_left (by rw [h.len]; exact hl)]; exact h1, h2, h3⟩
  · rw [List.length_append] at hi
    obtain ⟨a, cap, h1, h2, h3⟩ := k.ent (i - L.length) (by omega)
    have e : (L ++ M).getD i [] = M.getD (i - L.length) [] := by simp [List.getD, List.getElem?_append, hl]
    rw [e]
    exact ⟨a, cap, by rw [List.getElem?_append_right (by rw [h.len]; omega), h.len]; exact h1, h2, h3⟩
theorem Ents.sole {w : World} {F : List Nat} {a : Option Addr} {n cap : Nat} {l : List Nat} (h : Bytes w a l) (hn : n = l.length) (hnil : a = none → cap = 0) (hF : l ≠ [] → ∀ x, a = some x → x.block ∉ F) : Ents w F [.slice a n cap] [l] := by
  subst hn
  refine ⟨rfl, fun i hi => ?_⟩
  have : i = 0 := by simpa using hi
  subst this
  exact ⟨a, cap, rfl, h, hF, hnil⟩
theorem Ents.take {w : World} {F : List Nat} {vs : List Value} {L : List (List Nat)} (h : Ents w F vs L) (k : Nat) : Ents w F (vs.take k) (L.take k) := by
  refine ⟨by simp [h.len], fun i hi => ?_⟩
  rw [List.length_take] at hi
  obtain ⟨a, cap, h1, h2, h3⟩ := h.ent i (by omega)
  have e : (L.take k).getD i [] = L.getD i [] := by simp [List.getD, show i < k by omega]
  rw [e]
  exact ⟨a, cap, by rw [List.getElem?_take, if_pos (by omega)]; exact h1, h2, h3⟩

/-- A slice of slices of bytes, as it reads; neither it nor what is in it (if it isn't empty) lies in the blocks F. -/
def LL (w : World) (F : List Nat) (a : Option Addr) (L : List (List Nat)) : Prop :=
  ∃ vs, ValsAt w a vs ∧ Ents w F vs L ∧ (L ≠ [] → ∀ x, a = some x → x.block ∉ F)
theorem LL.keep {w w' : World} {F F' S : List Nat} {a : Option Addr} {L : List (List Nat)} (h : LL w F a L) (hf : Frm S w w') (hS : ∀ x ∈ S, x ∈ F ∨ w.heap.size ≤ x) (hF : ∀ x ∈ F', x ∈ F ∨ w.heap.size ≤ x) : LL w' F' a L := by
  obtain ⟨vs, h1, h2, h3⟩ := h
  have hlt : L ≠ [] → ∀ x, a = some x → x.block < w.heap.size := by
    intro h0 x hx
    have h0' : vs ≠ [] := by intro e; have := h2.len; rw [e] at this; exact h0 (List.eq_nil_of_length_eq_zero this.symm)
    rcases h1 with h | ⟨b, off, rfl, hc⟩
    · exact absurd h h0'
    · cases hx
      cases vs with
      | nil => exact absurd rfl h0'
      | cons v vs => exact block_lt_of_cell (a := ⟨b, off + 0, none⟩) (hc 0 v rfl)
  have hvs : vs ≠ [] → L ≠ [] := by intro h0 e; have := h2.len; rw [e] at this; exact h0 (List.eq_nil_of_length_eq_zero this)
  refine ⟨vs, h1.keep hf (fun h0 x hx hm => ?_), h2.keep hf hS hF, fun h0 x hx hm => ?_⟩
  · rcases hS _ hm with h | h
    · exact h3 (hvs h0) x hx h
    · have := hlt (hvs h0) x hx; omega
  · rcases hF _ hm with h | h
    · exact h3 h0 x hx h
    · have := hlt h0 x hx; omega
theorem LL.less {w : World} {F F' : List Nat} {a : Option Addr} {L : List (List Nat)} (h : LL w F a L) (hF : ∀ x ∈ F', x ∈ F ∨ w.heap.size ≤ x) : LL w F' a L := h.keep (S := []) (Frm.refl _ _) (by simp) hF
theorem LL.take {w : World} {F : List Nat} {a : Option Addr} {L : List (List Nat)} (h : LL w F a L) (k : Nat) : LL w F a (L.take k) := by
  obtain ⟨vs, h1, h2, h3⟩ := h
  refine ⟨vs.take k, ?_, h2.take k, fun h0 => h3 (by rintro rfl; simp at h0)⟩
  rcases h1 with h | ⟨b, off, rfl, hc⟩
  · exact .inl (by rw [h]; simp)
  · refine .inr ⟨b, off, rfl, fun i u hu => hc i u ?_⟩
    rw [List.getElem?_take] at hu
    split at hu
    · exact hu
    · cases hu
/-- One of them. -/
theorem LL.at {w : World} {F : List Nat} {a : Option Addr} {L : List (List Nat)} (h : LL w F a L) {i : Nat} (hi : i < L.length) :
    ∃ b off, a = some ⟨b, off, none⟩ ∧ ∃ ai ci, w.cell? ⟨b, off + i, none⟩ = some (.slice ai (L.getD i []).length ci) ∧ Bytes w ai (L.getD i []) ∧ (L.getD i [] ≠ [] → ∀ x, ai = some x → x.block ∉ F) ∧ (ai = none → ci = 0) := by
  obtain ⟨vs, h1, h2, h3⟩ := h
  obtain ⟨ai, ci, e1, e2, e3⟩ := h2.ent i hi
  rcases h1 with h | ⟨b, off, rfl, hc⟩
  · rw [h] at e1; simp at e1
  · exact ⟨b, off, rfl, ai, ci, hc i _ e1, e2, e3⟩
theorem LL.byte {w : World} {F : List Nat} {a : Option Addr} {L : List (List Nat)} (h : LL w F a L) {l : List Nat} (hl : l ∈ L) : ∀ c ∈ l, c < 256 := by
  obtain ⟨i, hi, rfl⟩ := List.getElem_of_mem hl
  obtain ⟨_, _, _, _, _, _, hb, _⟩ := h.at hi
  simpa [List.getD, hi] using hb.1

/-- A row of the call's own of slices of bytes. -/
structure OwnL (w : World) (base : Nat) (e : TypeId) (F : List Nat) (a : Option Addr) (cap : Nat) (L : List (List Nat)) (vs : List Value) : Prop where
  own : w.ownsRow base e 1 (.slice a L.length cap) L.length vs
  ents : Ents w (blk a ++ F) vs L
  away : ∀ g ∈ blk a, g ∉ F
section
variable {w w' : World} {base : Nat} {e : TypeId} {F F' S : List Nat} {a : Option Addr} {cap : Nat} {L : List (List Nat)} {vs : List Value}
theorem OwnL.nil (w : World) (base : Nat) (e : TypeId) (F : List Nat) : OwnL w base e F none 0 [] [] := ⟨World.ownsRow_nil _ _ _ _, Ents.nil _ _, by simp⟩
theorem OwnL.blk_lt (h : OwnL w base e F a cap L vs) : ∀ g ∈ blk a, base ≤ g ∧ g < w.heap.size := by
  intro g hg
  obtain ⟨x, rfl, rfl⟩ := mem_blk.1 hg
  exact World.ownsRow.lt h.own x.block rfl
theorem OwnL.keep (h : OwnL w base e F a cap L vs) (hf : Frm S w w') (hS : ∀ x ∈ S, x ∈ F ∨ w.heap.size ≤ x) (hF : ∀ x ∈ F', x ∈ F ∨ w.heap.size ≤ x) : OwnL w' base e F' a cap L vs := by
  have hb := h.blk_lt
  refine ⟨hf.own h.own (fun g hg hm => ?_), h.ents.keep hf (fun x hx => ?_) (fun x hx => ?_), fun g hg hm => ?_⟩
  · have hg' : g ∈ blk a := by
      cases a with
      | none => simp [Value.ownBlock] at hg
      | some y => simpa [Value.ownBlock, eq_comm] using hg
    rcases hS g hm with h1 | h1
    · exact h.away g hg' h1
    · have := (hb g hg').2; omega
  · rcases hS x hx with h1 | h1
    · exact .inl (by simp [h1])
    · exact .inr h1
  · rcases List.mem_append.1 hx with h1 | h1
    · exact .inl (by simp [h1])
    · rcases hF x h1 with h2 | h2
      · exact .inl (by simp [h2])
      · exact .inr h2
  · rcases hF g hm with h1 | h1
    · exact h.away g hg h1
    · have := (hb g hg).2; omega
theorem OwnL.ll (h : OwnL w base e F a cap L vs) : LL w F a L := by
  refine ⟨vs, ?_, h.ents.keep (S := []) (Frm.refl _ _) (by simp) (fun x hx => .inl (by simp [hx])), fun _ x hx => h.away x.block (by rw [hx]; simp)⟩
  by_cases h0 : vs = []
  · exact .inl h0
  · rcases h.own.2 with ⟨_, hl⟩ | ⟨g, c, cur, hv, _⟩
    · exact absurd (List.eq_nil_of_length_eq_zero (by rw [h.ents.len, hl])) h0
    · simp only [Value.slice.injEq] at hv
      obtain ⟨rfl, _, rfl⟩ := hv
      refine .inr ⟨g, 0, rfl, fun i u hu => ?_⟩
      have hi : i < vs.length := by
        rcases Nat.lt_or_ge i vs.length with h' | h'
        · exact h'
        · rw [List.getElem?_eq_none h'] at hu; cases hu
      rw [Nat.zero_add, World.ownsRow.cellAt h.own i (by rw [Nat.mul_one, ← h.ents.len]; exact hi)]
      exact hu
theorem OwnL.caps (h : OwnL w base e F a cap L vs) : L.length ≤ cap ∧ cap ≤ maxLen ∧ (a = none → cap = 0) := by
  rcases h.own.2 with ⟨hv, hl⟩ | ⟨g, c, cur, hv, _, _, h1, h2, _⟩
  · simp only [Value.slice.injEq] at hv
    rw [hl, hv.2.2]; exact ⟨Nat.le_refl _, Nat.zero_le _, fun _ => rfl⟩
  · simp only [Value.slice.injEq] at hv
    obtain ⟨rfl, _, rfl⟩ := hv
    exact ⟨h1, h2, fun h => by cases h⟩
/-- What is appended lies neither in the row's block nor in F. -/
theorem OwnL.app {n m : Nat} {us : List Value} {M : List (List Nat)} {a' : Option Addr} {cap' : Nat} (h : OwnL w base e F a cap L vs) (hn : n = L.length) (k : Ents w (blk a ++ F) us M) (hm : m = M.length) (hF : ∀ x ∈ F, x < w.heap.size)
    (ha : AppV w w' base e (.slice a n cap) n m vs us a' cap') : OwnL w' base e F a' cap' (L ++ M) (vs ++ us) ∧ Frm (blk a) w w' ∧ (∀ g ∈ blk a', g ∈ blk a ∨ w.heap.size ≤ g) ∧ n + m = (L ++ M).length := by
  subst hn; subst hm
  have hown : ∀ g, (Value.slice a L.length cap).ownBlock = some g → g ∈ blk a := by
    intro g hg
    cases a with
    | none => simp [Value.ownBlock] at hg
    | some y => simpa [Value.ownBlock, eq_comm] using hg
  have hf : Frm (blk a) w w' := (Frm.refl _ _).grown ha.grown (fun g hg => .inl (hown g hg))
  have hp : ∀ g ∈ blk a', g ∈ blk a ∨ w.heap.size ≤ g := by
    intro g hg
    have hg' : (Value.slice a' (L.length + M.length) cap').ownBlock = some g := by
      obtain ⟨x, rfl, rfl⟩ := mem_blk.1 hg
      rfl
    rcases ha.place with h1 | h1
    · exact .inl (hown g (h1 ▸ hg'))
    · rw [hg'] at h1
      cases h1
      exact .inr (Nat.le_refl _)
  refine ⟨⟨?_, ?_, fun g hg hm => ?_⟩, hf, hp, by simp⟩
  · have := ha.own
    rwa [List.length_append]
  · refine (h.ents.append k).keep hf (fun x hx => .inl (by simp [hx])) (fun x hx => ?_)
    rcases List.mem_append.1 hx with h1 | h1
    · rcases hp x h1 with h2 | h2
      · exact .inl (by simp [h2])
      · exact .inr h2
    · exact .inl (by simp [h1])
  · rcases hp g hg with h1 | h1
    · exact h.away g h1 hm
    · have := hF g hm; omega
end
/-- A slice of slices of bytes that came in. -/
structure LIn (w : World) (a : Option Addr) (cap : Nat) (L : List (List Nat)) : Prop where
  ll : LL w [] a L
  nil : a = none → cap = 0
/-- A slice of bools that came in. -/
def BIn (w : World) (a : Option Addr) (bs : List Bool) : Prop := ∀ i, i < bs.length → ∃ b off, a = some ⟨b, off, none⟩ ∧ w.cell? ⟨b, off + i, none⟩ = some (.bool (bs.getD i false))
theorem BIn.keep {w w' : World} {a : Option Addr} {bs : List Bool} (h : BIn w a bs) (hf : Frm [] w w') : BIn w' a bs := fun i hi => by
  obtain ⟨b, off, h1, h2⟩ := h i hi
  exact ⟨b, off, h1, (hf.cell (p := ⟨b, off + i, none⟩) (block_lt_of_cell h2) (by simp)).trans h2⟩
end Go.Proofs.YtcbpppdmkhpkkaaGreat
/- Contract of journal.first: no more of bytes than a frame with which they begin. -/
namespace Go.Proofs.YtcbpppdmkhpkkaaGreat
open Go.RowKit

/-- How many bytes first answers. -/
def fN (l : List Nat) : Nat := if l.length < 4 then l.length else min (8 + val (l.take 4)) l.length
theorem fN_le (l : List Nat) : fN l ≤ l.length := by unfold fN; split <;> omega
theorem fN_take4 {l : List Nat} (h : 8 ≤ l.length) : 8 ≤ fN l ∧ (l.take (fN l)).take 4 = l.take 4 ∧ ((l.take (fN l)).drop 4).take 4 = (l.drop 4).take 4 := by
  have h8 : 8 ≤ fN l := by unfold fN; rw [if_neg (by omega)]; omega
  refine ⟨h8, ?_, ?_⟩
  · rw [List.take_take, show min 4 (fN l) = 4 by omega]
  · rw [List.drop_take, List.take_take, show min 4 (fN l - 4) = 4 by omega]
theorem fN_u (l : List Nat) : uC (l.take (fN l)) = uC l := by
  have hle := fN_le l
  by_cases h8 : l.length < 8
  · have : fN l = l.length := by unfold fN; split <;> omega
    rw [this, List.take_length]
  · obtain ⟨k1, k2, k3⟩ := fN_take4 (l := l) (by omega)
    have hf : fN l = min (8 + val (l.take 4)) l.length := by unfold fN; rw [if_neg (by omega)]
    have hlen : (l.take (fN l)).length = fN l := by rw [List.length_take]; omega
    unfold uC
    rw [hlen, k2, k3, if_neg (by omega), if_neg h8]
    by_cases hz : 4096 < val (l.take 4)
    · rw [if_pos hz, if_pos hz]
    · rw [if_neg hz, if_neg hz]
      by_cases hl : l.length < 8 + val (l.take 4)
      · rw [if_pos (by omega), if_pos hl]
      · have e : fN l = 8 + val (l.take 4) := by omega
        rw [if_neg (by omega), if_neg hl, e, List.drop_take, show 8 + val (l.take 4) - 8 = val (l.take 4) by omega, List.take_take, Nat.min_self]
theorem fN_ok {l : List Nat} (h : uC l = 0) : fN l = 8 + (uX l).length ∧ uX (l.take (fN l)) = uX l := by
  obtain ⟨k1, k2, k3, k4, k5⟩ := u_ok h
  have hf : fN l = 8 + val (l.take 4) := by unfold fN; rw [if_neg (by omega)]; omega
  obtain ⟨j1, j2, j3⟩ := fN_take4 (l := l) (by omega)
  have h' : uC (l.take (fN l)) = 0 := by rw [fN_u, h]
  refine ⟨by rw [hf, k4], ?_⟩
  rw [(u_ok h').2.1, j2, k2, hf, List.drop_take, show 8 + val (l.take 4) - 8 = val (l.take 4) by omega, List.take_take, Nat.min_self]

theorem enters_first (args : Array Value) (w : World) : (callFunc 150 args).run Tryz.prog w = .ok (.enter 150 args) w := by kernel_rfl

/-- What the reader of a frame's size leaves in its variable. -/
def Size4 (w0 : World) (zb : Nat) (l : List Nat) (w2 : World) (rest : List Nat) : Prop :=
  rest = l.drop 4 ∧ Frm [zb] w0 w2 ∧ Whole w2 zb 3 #[.int .i64 (val (l.take 4) : Nat)]

theorem size_ret (zb : Nat) (x : Value) (w w1 : World) (rb cb db : Nat) (l : List Nat) (h : Told w w1 rb cb db l) (hz : Whole w zb 3 #[x]) (hl : 4 ≤ l.length) (h8 : ∀ c ∈ l, c < 256) :
    Calls Tryz.prog 150 (#[.pointer (some ⟨rb, 0, none⟩)] ++ #[.pointer (some ⟨zb, 0, none⟩)]) w1 (ByRet w w1 rb cb db (Size4 w zb l)) := by
  have hv : val (l.take 4) < 4294967296 := by
    have := val_lt (l.take 4) (fun c hc => h8 c (List.mem_of_mem_take hc))
    rw [List.length_take, Nat.min_eq_left (by omega)] at this
    simpa using this
  have H := Lib.hid h; clear h h8
  have HZ := Lib.hid hz; clear hz
  show Calls Tryz.prog 150 #[.pointer (some ⟨rb, 0, none⟩), .pointer (some ⟨zb, 0, none⟩)] w1 _
  go_enter Tryz.func150, Tryz.ntmps150
  go_wp2_with fail
  refine (ru32_ok H.out.rdr (by omega) H.out.dlt).mono ?_
  rintro e w2 ⟨rfl, hr2, hf2⟩
  have HR2 := Lib.hid hr2; clear hr2
  have HF2 := Lib.hid hf2; clear hf2
  obtain ⟨v1, hv1⟩ : ∃ v, v = val (l.take 4) := ⟨_, rfl⟩
  rw [← hv1] at hv ⊢
  have h := H.out
  have zlt := HZ.out.lt
  have hge := h.hr
  have hgc := h.hc
  have hgd := h.hd
  have hf03 : Frm [] w w2 := h.frm.trans HF2.out (by simp) (fun x hx => by simp at hx; subst hx; exact .inr hge)
  have hz3 := hf03.whole HZ.out (by simp)
  have z1 := hz3.free 0
  have hzz := hz3.put 0 (.int .i64 (v1 : Nat))
  have hfr : Frm [zb] w (w2.setCell ⟨zb, 0, none⟩ (.int .i64 (v1 : Nat))) := (hf03.weak (by simp)).setCell (.inl (by simp)) _
  have hfr2 : Frm [rb, zb] w1 (w2.setCell ⟨zb, 0, none⟩ (.int .i64 (v1 : Nat))) := (HF2.out.weak (fun x hx => .inl (by simp at hx; simp [hx]))).setCell (.inl (by simp)) _
  have hk : Frm [zb] w2 (w2.setCell ⟨zb, 0, none⟩ (.int .i64 (v1 : Nat))) := (Frm.refl _ _).setCell (.inl (by simp)) _
  have hrr := HR2.out.keep hk (by simp; omega) (by simp; omega) (by simp; omega)
  have FIN : ByRet w w1 rb cb db (Size4 w zb l) (.returned (.tuple #[])) (w2.setCell ⟨zb, 0, none⟩ (.int .i64 (v1 : Nat))) :=
    ⟨rfl, l.drop 4, [rb, zb], ⟨rfl, hfr, by rw [← hv1]; simpa using hzz⟩, hrr, hfr2, by simp; omega⟩
  have FH := Lib.hid FIN
  have c0 := hz3.cell 0
  simp at c0
  clear FIN hrr hk hfr hfr2 hzz hf03 hz3 hv1 h
  go_wp2
  go_end0
  exact FH.out

theorem size_short (zb : Nat) (w w1 : World) (rb cb db : Nat) (l : List Nat) (h : Told w w1 rb cb db l) (hl : l.length < 4) :
    Calls Tryz.prog 150 (#[.pointer (some ⟨rb, 0, none⟩)] ++ #[.pointer (some ⟨zb, 0, none⟩)]) w1 (ByThrow w w1 rb cb 4 (Frm [] w)) := by
  have H := Lib.hid h; clear h
  show Calls Tryz.prog 150 #[.pointer (some ⟨rb, 0, none⟩), .pointer (some ⟨zb, 0, none⟩)] w1 _
  go_enter Tryz.func150, Tryz.ntmps150
  go_wp2_with fail
  refine (ru32_short H.out.rdr hl).mono ?_
  rintro e w2 ⟨rfl, h1, h2⟩
  have h := H.out
  exact ⟨rfl, rfl, [rb, cb], h.frm.trans h2 (by simp) (fun x hx => by have := h.hr; have := h.hc; simp at hx; right; rcases hx with rfl | rfl <;> assumption), h1, h2, by simp⟩

def FirstEnd (w : World) (a : Option Addr) (cap : Nat) (l : List Nat) (e : Ending) (w' : World) : Prop := e = .returned (.slice a (fN l) cap) ∧ Frm [] w w'

set_option maxHeartbeats 1000000 in
theorem first_any (a : Option Addr) (n cap : Nat) (l : List Nat) (w : World) (hl : Bytes w a l) (hn : n = l.length) (hnc : n ≤ cap) (hnil : a = none → cap = 0) (hcap : n ≤ 140737488355328) :
    Calls Tryz.prog 123 #[.slice a n cap] w (FirstEnd w a cap l) := by
  have hmf : ∀ (fn : Fn) (first cap : Array Value) (w : World), (Instr.makeFunc fn first cap).run Tryz.prog w = .ok (.func fn first cap) w := fun _ _ _ _ => rfl
  have hg0 : Whole (w.alloc (.cells #[.int .i64 0] 3)) w.heap.size 3 #[.int .i64 0] := Whole.made w _ _
  have hf0 : Frm [] w (w.alloc (.cells #[.int .i64 0] 3)) := (Frm.refl _ _).alloc _
  have HG0 := Lib.hid hg0; clear hg0
  have HF0 := Lib.hid hf0; clear hf0
  have H8 := Lib.hid hl.1
  have HL := Lib.hid hl; clear hl
  have HNIL := Lib.hid hnil; clear hnil
  have hpos : 0 ≤ (n : Int) := by omega
  by_cases h4 : n < 4
  · have hfn : fN l = n := by unfold fN; rw [if_pos (by omega)]; omega
    have HN := Lib.hid hn; clear hn
    have hmin : ∀ (w : World), (Builtin.min_ #[3, 3] 3 #[.int .i64 4, .int .i64 (n : Int)]).run Tryz.prog w = .ok (.int .i64 (n : Int)) w := by
      intro w; simp [go_sem]; omega
    have hmin2 : ∀ (w : World), (Builtin.min_ #[3, 3] 3 #[.int .i64 8, .int .i64 (n : Int)]).run Tryz.prog w = .ok (.int .i64 (n : Int)) w := by
      intro w; simp [go_sem]; omega
    have hcut := fun w => run_head_h Tryz.underlying36 sizeU8 w a n cap n hnc
    have HFN := Lib.hid hfn; clear hfn
    go_enter Tryz.func123, Tryz.ntmps123
    go_wp2_with fail
    refine (read_throw 150 _ _ _ _ l _ (Frm [] _) 4 (HF0.out.bytes HL.out (by simp)) HN.out HNIL.out hcap enters_first (fun w1 rb cb db h => size_short _ _ w1 rb cb db l h (by have := HN.out; omega))).mono ?_
    rintro e w3 ⟨w2, c, T, rfl, ⟨hf2, rfl⟩, hf3, hT⟩
    have hz2 := hf2.whole HG0.out (by simp)
    have hz3 := hf3.whole hz2 (fun hm => by have := hT _ hm; simp at this; omega)
    have c0 := hz3.cell 0
    simp at c0
    have HF := Lib.hid (HF0.out.trans (hf2.trans hf3 (U := []) (by simp) (fun x hx => .inr (hT x hx))) (U := []) (by simp) (by simp)); clear hf2 hf3 hT hz2 hz3
    go_wp2
    go_ret
    exact ⟨by rw [HFN.out]; rfl, HF.out⟩
  · obtain ⟨z, hz⟩ : ∃ z, z = val (l.take 4) := ⟨_, rfl⟩
    have hz32 : z < 4294967296 := by
      have := val_lt (l.take 4) (fun c hc => H8.out c (List.mem_of_mem_take hc))
      rw [List.length_take, Nat.min_eq_left (by omega), ← hz] at this
      simpa using this
    obtain ⟨k, hk⟩ : ∃ k, k = fN l := ⟨_, rfl⟩
    have hkv : k = min (8 + z) n := by rw [hk, hz, hn]; unfold fN; rw [if_neg (by omega)]
    have hmin : ∀ (w : World), (Builtin.min_ #[3, 3] 3 #[.int .i64 4, .int .i64 (n : Int)]).run Tryz.prog w = .ok (.int .i64 (4 : Nat)) w := by
      intro w
      by_cases h9 : n = 4
      · subst h9; kernel_rfl
      · simp [go_sem]; omega
    have hmin2 : ∀ (w : World), (Builtin.min_ #[3, 3] 3 #[.int .i64 (8 + (z : Int)), .int .i64 (n : Int)]).run Tryz.prog w = .ok (.int .i64 (k : Nat)) w := by
      intro w
      simp [go_sem]
      split <;> (first | (simp; omega) | omega)
    have hcut4 := fun w => run_head_h Tryz.underlying36 sizeU8 w a n cap 4 (by omega)
    have hcut := fun w => run_head_h Tryz.underlying36 sizeU8 w a n cap k (by omega)
    have HK := Lib.hid hk; clear hk hkv
    have HZ := Lib.hid hz; clear hz
    have HN := Lib.hid hn; clear hn
    go_enter Tryz.func123, Tryz.ntmps123
    go_wp2_with fail
    refine (read_ret 150 _ _ _ _ (l.take 4) _ (Size4 _ w.heap.size (l.take 4)) ((HF0.out.bytes HL.out (by simp)).take 4) (by simp; have := HN.out; omega) HNIL.out (by omega) enters_first (fun w1 rb cb db h => size_ret w.heap.size _ _ w1 rb cb db (l.take 4) h HG0.out (by simp; have := HN.out; omega) (fun c hc => H8.out c (List.mem_of_mem_take hc)))).mono ?_
    rintro e w3 ⟨w2, c, T, rfl, ⟨rest, ⟨hrest, hf2, hz2⟩, hc⟩, hf3, hT⟩
    have hr0 : rest = [] := by rw [hrest]; simp
    obtain rfl : c = 0 := by rw [hc, if_pos hr0]
    have hz3 := hf3.whole hz2 (fun hm => by have := hT _ hm; simp at this; omega)
    rw [List.take_take, Nat.min_self, ← HZ.out] at hz3
    have c0 := hz3.cell 0
    simp at c0
    have HF := Lib.hid ((HF0.out.fresh (F := [w.heap.size]) (by simp) hf2).fresh (F := T) (fun x hx => by have := hT x hx; simp at this; omega) hf3)
    clear hf2 hf3 hT hz2 hz3 hrest hr0 hc HG0
    go_wp2
    go_ret
    exact ⟨by rw [← HK.out]; rfl, HF.out⟩
end Go.Proofs.YtcbpppdmkhpkkaaGreat
/- Unframe, and the reference's: the same contracts as before, and where the body lies. -/
namespace Go.Proofs.YtcbpppdmkhpkkaaGreat
open Go.RowKit

/-- What Unframe answers, the body in a block of which G holds. -/
def UnfG (G : Nat → Prop) (w : World) (x y : List Nat) (c : Int) (e : Ending) (w' : World) : Prop :=
  ∃ a1 cap1 a2 cap2, e = .returned (.tuple #[.slice a1 x.length cap1, .slice a2 y.length cap2, .int .i64 c]) ∧ Bytes w' a1 x ∧ Bytes w' a2 y ∧ Frm [] w w' ∧ (∀ q, a1 = some q → G q.block) ∧ (a1 = none → cap1 = 0)

theorem unfG_err {G : Nat → Prop} {w : World} {l : List Nat} {c : Int} {e : Ending} {w' : World} (hc : uC l = c) (h0 : c ≠ 0) (h : UnfErr w c e w') : UnfG G w (uX l) (uY l) (uC l) e w' := by
  have hx : uX l = [] := by unfold uX; rw [hc, if_neg h0]
  have hy : uY l = [] := by unfold uY; rw [hc, if_neg h0]
  rw [hx, hy, hc]
  exact ⟨none, 0, none, 0, h.1, Bytes.nil _, Bytes.nil _, h.2, (fun _ h => by cases h), fun _ => rfl⟩

theorem unframe_new (a : Option Addr) (n cap : Nat) (l : List Nat) (w : World) (hl : Bytes w a l) (hn : n = l.length) (hnc : n ≤ cap) (hnil : a = none → cap = 0) (hcap : n ≤ 140737488355328) (hcm : cap ≤ 9223372036854775807) :
    Calls Tryz.prog 124 #[.slice a n cap] w (UnfG (w.heap.size ≤ ·) w (uX l) (uY l) (uC l)) := by
  by_cases h1 : n < 8
  · exact (unframe_short a n cap l w hl hn hnc hnil hcap hcm h1).mono fun e w' h => unfG_err (c := 4) (by unfold uC; rw [if_pos (by omega)]) (by decide) h
  by_cases h2 : 4096 < val (l.take 4)
  · exact (unframe_long a n cap l w hl hn hnc hnil hcap hcm _ _ rfl rfl (by omega) h2).mono fun e w' h => unfG_err (c := 3) (by unfold uC; rw [if_neg (by omega), if_pos h2]) (by decide) h
  by_cases h3 : n < 8 + val (l.take 4)
  · exact (unframe_less a n cap l w hl hn hnc hnil hcap hcm _ _ rfl rfl (by omega) (by omega) h3).mono fun e w' h => unfG_err (c := 4) (by unfold uC; rw [if_neg (by omega), if_neg h2, if_pos (by omega)]) (by decide) h
  by_cases h4 : sumN ((l.drop 8).take (val (l.take 4))) = val ((l.drop 4).take 4)
  · have h0 : uC l = 0 := by unfold uC; rw [if_neg (by omega), if_neg h2, if_neg (by omega), if_pos h4]
    obtain ⟨_, hx, hy, hxl, hyl⟩ := u_ok h0
    refine (unframe_okF a n cap l w hl hn hnc hnil hcap hcm _ _ rfl rfl (by omega) (by omega) (by omega) h4).mono ?_
    rintro e w' ⟨a1, cap1, a2, cap2, rfl, k1, k2, hf, hq⟩
    exact ⟨a1, cap1, a2, cap2, by rw [hxl, hyl, h0], by rw [hx]; exact k1.bytes, by rw [hy]; exact k2.bytes, hf, hq, k1.nil⟩
  · exact (unframe_sum a n cap l w hl hn hnc hnil hcap hcm _ _ rfl rfl (by omega) (by omega) (by omega) _ rfl h4).mono fun e w' h => unfG_err (c := 7) (by unfold uC; rw [if_neg (by omega), if_neg h2, if_neg (by omega), if_neg h4]) (by decide) h

end Go.Proofs.YtcbpppdmkhpkkaaGreat
/- Contracts of journal.bodies and of the reference's Records: the bodies of the frames with which bytes begin, and how many bytes these are. -/
namespace Go.Proofs.YtcbpppdmkhpkkaaGreat
open Go.RowKit

theorem Tryz.info36 : (Tryz.prog.info? 36).map (fun i => (i.zero, i.size, i.bytes)) = some (some (.slice none 0 0), 1, 24) := by kernel_rfl

/-- A list of records that a call made, and how many bytes they are. -/
def Recs (w : World) (F : List Nat) (l : List Nat) (e : Ending) (w' : World) : Prop :=
  ∃ a cap vs, e = .returned (.tuple #[.slice a (recs l).length cap, .int .i64 (recN l : Nat)]) ∧ OwnL w' w.heap.size 36 F a cap (recs l) vs ∧ Frm [] w w'

/-- At the head of the loop: so many records are there already. -/
def BoRel (w : World) (F : List Nat) (l : List Nat) (u2 u3 : Value) (wr : World) : Prop :=
  ∃ L sz a cap vs, recs l = L ++ recs (l.drop sz) ∧ recN l = sz + recN (l.drop sz) ∧ sz ≤ l.length ∧ L.length ≤ sz ∧ u2 = .slice a L.length cap ∧ u3 = .int .i64 (sz : Nat) ∧ OwnL wr w.heap.size 36 F a cap L vs ∧ Frm [] w wr

theorem bo_step {l L : List Nat} {M : List (List Nat)} {sz : Nat} (hL : L = l.drop sz) (h : uC L = 0) (h1 : recs l = M ++ recs L) (h2 : recN l = sz + recN L) (h3 : sz ≤ l.length) (h4 : M.length ≤ sz) :
    recs l = (M ++ [uX L]) ++ recs (l.drop (sz + fN L)) ∧ recN l = sz + fN L + recN (l.drop (sz + fN L)) ∧ sz + fN L ≤ l.length ∧ (M ++ [uX L]).length ≤ sz + fN L := by
  have hf := (fN_ok h).1
  have hl := fN_le L
  have e : uY L = l.drop (sz + fN L) := by rw [(u_ok h).2.2.1, hf, (u_ok h).2.2.2.1, hL, List.drop_drop]
  have hlen : L.length = l.length - sz := by rw [hL, List.length_drop]
  refine ⟨by rw [h1, recs_go h, e]; simp, by rw [h2, recN_go h, e]; omega, by omega, by simp; omega⟩

set_option maxRecDepth 100000 in
set_option maxHeartbeats 2000000 in
theorem bodies_any (a : Option Addr) (n cap : Nat) (l : List Nat) (F : List Nat) (w : World) (hl : Bytes w a l) (hn : n = l.length) (hnc : n ≤ cap) (hnil : a = none → cap = 0) (hcap : n ≤ 100000000) (hcm : cap ≤ 9223372036854775807) (hF : ∀ x ∈ F, x < w.heap.size) :
    Calls Tryz.prog 82 #[.slice a n cap] w (Recs w F l) := by
  obtain ⟨i0, hi, hz0, hz1, hz2⟩ := info_parts Tryz.info36
  have HI := Lib.hid hi; clear hi
  have HZ0 := Lib.hid hz0; clear hz0
  have HZ1 := Lib.hid hz1; clear hz1
  have HZ2 := Lib.hid hz2; clear hz2
  have HL := Lib.hid hl; clear hl
  have HN := Lib.hid hn; clear hn
  have HNIL := Lib.hid hnil; clear hnil
  have HF := Lib.hid hF; clear hF
  go_enter Tryz.func82, Tryz.ntmps82
  go_wp2
  go_loopw [2, 3] (fun u2 u3 wr => BoRel w F l u2 u3 wr) (fun _ u3 _ => n + 1 - (intOf u3).toNat)
  case atStart => exact ⟨[], 0, none, 0, [], by simp, by simp, Nat.zero_le _, Nat.le_refl _, rfl, rfl, OwnL.nil _ _ _ _, Frm.refl _ _⟩
  case round =>
    obtain ⟨M, sz, ar, cr, vs, hr1, hr2, hr3, hr4, rfl, rfl, hown, hfr⟩ := hrel
    obtain ⟨L, hL⟩ : ∃ L, L = l.drop sz := ⟨_, rfl⟩
    have hln : L.length = n - sz := by rw [hL, List.length_drop, HN.out]
    have hszn : sz ≤ n := by rw [HN.out]; exact hr3
    rw [← hL] at hr1 hr2
    have hcut := fun w => run_cut_l (P := Tryz.prog) Tryz.underlying36 sizeU8 w a n cap sz (sz : Int) rfl hszn
    have hbL : Bytes wr (cutAt a cap sz) L := by rw [hL]; exact cut_bytes (hfr.bytes HL.out (by simp)) (by have := HN.out; omega) sz
    have hnilL : cutAt a cap sz = none → cap - sz = 0 := fun h => cut_none HNIL.out h
    obtain ⟨a1, ha1⟩ : ∃ a1, a1 = cutAt a cap sz := ⟨_, rfl⟩
    obtain ⟨n1, hn1⟩ : ∃ n1, n1 = n - sz := ⟨_, rfl⟩
    obtain ⟨c1, hc1⟩ : ∃ c1, c1 = cap - sz := ⟨_, rfl⟩
    rw [← ha1, ← hn1, ← hc1] at hcut
    rw [← ha1] at hbL hnilL
    rw [← hc1] at hnilL
    have hln1 : n1 = L.length := by omega
    have hnc1 : n1 ≤ c1 := by omega
    have hc1m : c1 ≤ 9223372036854775807 := by omega
    have hn1m : n1 ≤ 100000000 := by omega
    have HBL := Lib.hid hbL; clear hbL
    have HNL := Lib.hid hnilL; clear hnilL
    have HLN := Lib.hid hln1; clear hln1
    have HOWN := Lib.hid hown; clear hown
    have HFR := Lib.hid hfr; clear hfr
    have HR1 := Lib.hid hr1; clear hr1
    have HR2 := Lib.hid hr2; clear hr2
    have HR3 := Lib.hid hr3; clear hr3
    have HLL := Lib.hid hL; clear hL
    clear hln ha1 hn1 hc1
    go_wp2_with fail
    refine (first_any a1 n1 c1 L wr HBL.out HLN.out hnc1 HNL.out (by omega)).mono ?_
    rintro e w1 ⟨rfl, hf1⟩
    have hfl := fN_le L
    have hfu := fN_u L
    have hlf : (L.take (fN L)).length = fN L := by rw [List.length_take]; omega
    have hfo := fun h => fN_ok (l := L) h
    have hst := fun h => bo_step (M := M) HLL.out h HR1.out HR2.out HR3.out hr4
    obtain ⟨f, hf⟩ : ∃ f, f = fN L := ⟨_, rfl⟩
    rw [← hf] at hfl hfu hlf hfo hst ⊢
    have hfn1 : f ≤ n1 := by rw [HLN.out]; exact hfl
    have HF1 := Lib.hid hf1; clear hf1
    have HFU := Lib.hid hfu; clear hfu
    have HLF := Lib.hid hlf; clear hlf
    have HFO := Lib.hid hfo; clear hfo
    have HST := Lib.hid hst; clear hst
    clear hf hfl
    go_wp2_with fail
    refine (unframe_new a1 f c1 (L.take f) w1 ((HF1.out.bytes HBL.out (by simp)).take f) HLF.out.symm (by omega) HNL.out (by omega) hc1m).mono ?_
    rintro e w2 ⟨ax, cx, ay, cy, rfl, hx, hy, hf2, hq, hnx⟩
    rw [HFU.out]
    have hf02 := (HFR.out.trans HF1.out (U := []) (by simp) (by simp)).trans hf2 (U := []) (by simp) (by simp)
    have hf12 := HF1.out.trans hf2 (U := []) (by simp) (by simp)
    by_cases hu : uC L = 0
    · rw [hu]
      obtain ⟨st1, st2, st3, st4⟩ := HST.out hu
      rw [(HFO.out hu).2] at hx ⊢
      obtain ⟨X, hX⟩ : ∃ X, X = uX L := ⟨_, rfl⟩
      rw [← hX] at hx st1 st4 ⊢
      obtain ⟨x, hxl⟩ : ∃ x, x = X.length := ⟨_, rfl⟩
      rw [← hxl]
      have hown2 := HOWN.out.keep (F' := F) hf12 (by simp) (fun x h => .inl h)
      obtain ⟨m, hm⟩ : ∃ m, m = M.length := ⟨_, rfl⟩
      rw [← hm] at hr4 ⊢
      have hown3 : OwnL (w2.alloc (.cells #[.slice ax x cx] 36)) w.heap.size 36 F ar cr M vs := hown2.keep ((Frm.refl [] w2).alloc _) (by simp) (fun x h => .inl h)
      have hents : Ents (w2.alloc (.cells #[.slice ax x cx] 36)) (blk ar ++ F) [.slice ax x cx] [X] := by
        refine Ents.sole (((Frm.refl [] w2).alloc _).bytes hx (by simp)) hxl hnx (fun hne q hqq hm2 => ?_)
        have h1 := hq q hqq
        have h2 := HFR.out.size
        have h3 := HF1.out.size
        rcases List.mem_append.1 hm2 with h | h
        · have := (HOWN.out.blk_lt _ h).2; omega
        · have := HF.out _ h; omega
      have hF2 : ∀ y ∈ F, y < (w2.alloc (.cells #[.slice ax x cx] 36)).heap.size := fun y hy => by have := HF.out y hy; have := hf02.size; simp; omega
      have hb2 : w.heap.size ≤ (w2.alloc (.cells #[.slice ax x cx] 36)).heap.size := by have := hf02.size; simp; omega
      have HO3 := Lib.hid hown3
      have HE := Lib.hid hents
      have HF2 := Lib.hid hF2
      have HB2 := Lib.hid hb2
      have HOW := Lib.hid hown3.own
      have HF02 := Lib.hid hf02
      have HM := Lib.hid hm
      have HX := Lib.hid hxl
      have ST1 := Lib.hid st1
      have ST2 := Lib.hid st2
      have ST4 := Lib.hid st4
      have hfit : m + 1 ≤ 1000000000 := by omega
      have hst3 : sz + f ≤ n := by rw [HN.out]; exact st3
      have hf0 : 0 < f := by rw [(HFO.out hu).1]; omega
      have hown2' := HOW
      rw [← HM.out] at HOW
      clear hown2' hown2 hown3 hents hF2 hb2 hf02 hf12 hx hy hq hnx hf2 st1 st2 st3 st4 hX hxl hm hu
      go_wp2_with (at_builtin; refine wpList_appV rfl (.tmp 22) (.tmp 24) 113 rfl w.heap.size 36 i0 (.slice none 0 0) 24 Tryz.underlying113 HI.out HZ0.out rfl HZ1.out HZ2.out (by decide) (.slice ar m cr) m vs rfl HOW.out _ 1 1 [.slice ax x cx] rfl (ValsAt.one _ _ _) rfl HE.out.one' (fun h => by cases h) hfit HB2.out ?_)
      intro a3 cap3 w3 happ
      obtain ⟨h1, h2, h3, h4⟩ := HO3.out.app HM.out HE.out rfl HF2.out happ
      have HA1 := Lib.hid h1
      have HA2 := Lib.hid (((HF02.out.alloc (.cells #[.slice ax x cx] 36))).trans h2 (U := []) (by simp) (fun x hx => .inr (HO3.out.blk_lt x hx).1))
      have HA4 := Lib.hid h4
      clear h1 h2 h3 h4 happ
      go_wp2
      go_round
      case rel => exact ⟨M ++ [X], sz + f, a3, cap3, _, ST1.out, ST2.out, by have := HN.out; omega, ST4.out, by rw [← HA4.out]; rfl, by go_num, HA1.out, HA2.out⟩
      case measure => simp [intOf]; omega
    · obtain ⟨c, hc⟩ : ∃ c, c = uC L := ⟨_, rfl⟩
      rw [← hc] at hu ⊢
      have hcb : c ≠ 0 := hu
      have hrec : recs l = M := by rw [HR1.out, recs_stop (by rw [← hc]; exact hu)]; simp
      have hrecN : recN l = sz := by rw [HR2.out, recN_stop (by rw [← hc]; exact hu)]; rfl
      have HRC := Lib.hid hrec
      have HRN := Lib.hid hrecN
      have HF02 := Lib.hid hf02
      have hown2 := Lib.hid (HOWN.out.keep (F' := F) hf12 (by simp) (fun x h => .inl h))
      clear hrec hrecN hf02 hf12 hx hy hq hnx hf2 hc hu
      go_wp2
      go_ret2
      exact ⟨ar, cr, vs, by rw [HRC.out, HRN.out]; rfl, by rw [HRC.out]; exact hown2.out, HF02.out⟩
end Go.Proofs.YtcbpppdmkhpkkaaGreat
/- Contract of the reference's Records. -/
namespace Go.Proofs.YtcbpppdmkhpkkaaGreat
open Go.RowKit

end Go.Proofs.YtcbpppdmkhpkkaaGreat
/- Contract of the reference's SameBytes, at lists that are the same. -/
namespace Go.Proofs.YtcbpppdmkhpkkaaGreat
open Go.RowKit

/-- It answers true, and has but drawn. -/
def TrueQ (w : World) (e : Ending) (w' : World) : Prop := e = .returned (.bool true) ∧ ∃ n, w' = w.drewN n

end Go.Proofs.YtcbpppdmkhpkkaaGreat
/- Contracts of a nil Disk's calls, and of Awake (the fixed fact of layer 4). -/
namespace Go.Proofs.YtcbpppdmkhpkkaaGreat
open Go.RowKit

theorem nil_append (w : World) (v : Value) : Calls Tryz.prog 104 #[.pointer none, v] w fun e w' => e = .returned (.int .i64 1) ∧ w = w' := by
  go_enter Tryz.func104, Tryz.ntmps104
  go_wp2
  go_ret
  exact ⟨rfl, rfl⟩
end Go.Proofs.YtcbpppdmkhpkkaaGreat
/- Contract of Awake (the fixed fact of layer 4): it answers true and writes nothing that was there. -/
namespace Go.Proofs.YtcbpppdmkhpkkaaGreat
open Go.RowKit

/-- From w on only new blocks: the frame of a disk that was made behind w. -/
theorem Frm.dk {w w1 w2 : World} {B p : Nat} {F l : List Nat} {s room : Nat} (h : Frm [] w w1) (hB : w.heap.size ≤ B) (hd : Dk w1 B p F l s room) (hf : Frm F w1 w2) : Frm [] w w2 :=
  h.trans hf (by simp) (fun x hx => .inr (Nat.le_trans hB (hd.lt x hx).1))
theorem Frm.new {w w1 : World} (h : Frm [] w w1) : Below w.heap.size w w1 := h.below (by simp) (Nat.le_refl _)

end Go.Proofs.YtcbpppdmkhpkkaaGreat
/- Contracts of journal's calls: Open, Lay, Write; of a nil one and of a nil disk. -/
namespace Go.Proofs.YtcbpppdmkhpkkaaGreat
open Go.RowKit

/-- The Journal at q has the disk at p. -/
def Jn (w : World) (q p : Nat) : Prop := Whole w q 136 #[.pointer (some ⟨p, 0, none⟩)]
theorem Jn.notin {w : World} {q p B p' : Nat} {F l : List Nat} {s room : Nat} (h : Jn w q p) (hd : Dk w B p' F l s room) : q ∉ F := by
  intro hm
  obtain ⟨_, ⟨_, rfl, hp⟩ | ⟨r, a, cap, hon, rfl⟩⟩ := hd
  · simp at hm
    subst hm
    exact Whole.ne h hp (by decide) rfl
  · simp only [List.mem_cons] at hm
    rcases hm with rfl | rfl | hm
    · exact Whole.ne h hon.disk (by decide) rfl
    · exact Whole.ne h hon.row (by decide) rfl
    · exact hd_ne hon.head h (by decide) hm
theorem Jn.keep {w w' : World} {q p : Nat} {S : List Nat} (h : Jn w q p) (hf : Frm S w w') (hn : q ∉ S) : Jn w' q p := hf.whole h hn

/-- What Lay and Write answer; the bytes on the disk behind it; how many of them are sure behind Write. -/
def jc (l b : List Nat) (room : Nat) : Nat := if 4096 < b.length then 3 else if room < l.length + (b.length + 8) then 8 else 0
def jl (l b : List Nat) (room : Nat) : List Nat := if jc l b room = 0 then l ++ fr b else l
def js (l b : List Nat) (s room : Nat) : Nat := if jc l b room = 0 then (l ++ fr b).length else s
def JEnd (w : World) (B p : Nat) (F : List Nat) (l b : List Nat) (s' room : Nat) (e : Ending) (w' : World) : Prop := e = .returned (.int .i64 (jc l b room : Nat)) ∧ DkTo w w' B p F (jl l b room) s' room
theorem Dk.stay {w w' : World} {B p : Nat} {F l : List Nat} {s room : Nat} (h : Dk w B p F l s room) (hf : Frm [] w w') : DkTo w w' B p F l s room := ⟨F, h.keep hf (by simp), hf.weak (by simp), fun _ h => .inl h⟩
set_option maxHeartbeats 1000000 in
theorem jlay_any {w : World} {B p q : Nat} {F l : List Nat} {s room : Nat} (ad : Option Addr) (n c : Nat) (b : List Nat) (h : Dk w B p F l s room) (hj : Jn w q p) (hb : Bytes w ad b) (hn : n = b.length) (hnil : ad = none → c = 0) :
    Calls Tryz.prog 66 #[.pointer (some ⟨q, 0, none⟩), .slice ad n c] w (JEnd w B p F l b s room) := by
  have hb63 := hb.2.1
  have hlr := h.1.2.2
  have H := Lib.hid h; clear h
  have HJ := Lib.hid hj; clear hj
  have HB := Lib.hid hb; clear hb
  have HN := Lib.hid hn; clear hn
  have HNIL := Lib.hid hnil; clear hnil
  by_cases h4 : 4096 < n
  · have hjc : jc l b room = 3 := by unfold jc; rw [if_pos (by have := HN.out; omega)]
    have hjl : jl l b room = l := by unfold jl; rw [hjc]; rfl
    have HC := Lib.hid hjc; clear hjc
    have HJL := Lib.hid hjl; clear hjl
    go_enter Tryz.func66, Tryz.ntmps66
    go_wp2_with fail
    refine (frame_long ad n c w h4 (by have := HN.out; omega)).mono ?_
    rintro e w1 ⟨rfl, rfl⟩
    go_wp2
    go_ret
    exact ⟨by rw [HC.out]; rfl, by rw [HJL.out]; exact H.out.stay (Frm.refl _ _)⟩
  · have hfl : (fr b).length = n + 8 := by rw [fr_length, HN.out]
    have HFR := Lib.hid (fr_lt HB.out.1)
    have HFL := Lib.hid hfl; clear hfl
    by_cases hfull : room < l.length + (n + 8)
    · have hjc : jc l b room = 8 := by unfold jc; rw [if_neg (by have := HN.out; omega), if_pos (by have := HN.out; omega)]
      have hjl : jl l b room = l := by unfold jl; rw [hjc]; rfl
      have HC := Lib.hid hjc; clear hjc
      have HJL := Lib.hid hjl; clear hjl
      go_enter Tryz.func66, Tryz.ntmps66
      go_wp2_with fail
      refine (frame_ok ad n c b w HB.out HN.out HNIL.out (by omega)).mono ?_
      rintro e w1 ⟨af, cf, rfl, hof, hff⟩
      rw [HFL.out]
      have c0 := (HJ.out.keep hff (by simp)).cell 0
      simp at c0
      have HFF := Lib.hid hff
      clear hof hff
      go_wp2_with fail
      refine (append_full af (n + 8) cf (H.out.keep HFF.out (by simp)) (by omega) hfull).mono ?_
      rintro e w2 ⟨rfl, m, rfl⟩
      go_wp2
      go_ret
      exact ⟨by rw [HC.out]; rfl, by rw [HJL.out]; exact H.out.stay (HFF.out.drewN _)⟩
    · have hjc : jc l b room = 0 := by unfold jc; rw [if_neg (by have := HN.out; omega), if_neg (by have := HN.out; omega)]
      have hjl : jl l b room = l ++ fr b := by unfold jl; rw [hjc]; rfl
      have HC := Lib.hid hjc; clear hjc
      have HJL := Lib.hid hjl; clear hjl
      go_enter Tryz.func66, Tryz.ntmps66
      go_wp2_with fail
      refine (frame_ok ad n c b w HB.out HN.out HNIL.out (by omega)).mono ?_
      rintro e w1 ⟨af, cf, rfl, hof, hff⟩
      have hob := own_bytes hof HFR.out
      have HOB := Lib.hid hob
      have HL2 : Hid (n + 8 = (fr b).length) := HFL.out.symm
      rw [HFL.out]
      have c0 := (HJ.out.keep hff (by simp)).cell 0
      simp at c0
      have HFF := Lib.hid hff
      clear hof hff hob
      go_wp2_with fail
      refine (append_ok af (n + 8) cf (fr b) (H.out.keep HFF.out (by simp)) HOB.out.1 HL2.out HOB.out.2 (by have := HL2.out; omega)).mono ?_
      rintro e w2 ⟨rfl, hd2⟩
      have HD2 := Lib.hid (hd2.early HFF.out); clear hd2
      go_wp2
      go_ret
      exact ⟨by rw [HC.out]; rfl, by rw [HJL.out]; exact HD2.out⟩

set_option maxHeartbeats 1000000 in
theorem jwrite_any {w : World} {B p q : Nat} {F l : List Nat} {s room : Nat} (ad : Option Addr) (n c : Nat) (b : List Nat) (h : Dk w B p F l s room) (hj : Jn w q p) (hb : Bytes w ad b) (hn : n = b.length) (hnil : ad = none → c = 0) :
    Calls Tryz.prog 31 #[.pointer (some ⟨q, 0, none⟩), .slice ad n c] w (JEnd w B p F l b (js l b s room) room) := by
  have HL := Lib.hid (jlay_any ad n c b h hj hb hn hnil)
  have HNI := Lib.hid (hj.notin h)
  have HJ := Lib.hid hj
  clear h hj hb hn hnil
  by_cases h0 : jc l b room = 0
  · have hjs : js l b s room = (jl l b room).length := by unfold js jl; rw [if_pos h0, if_pos h0]
    have HS := Lib.hid hjs; clear hjs
    have H0 := Lib.hid h0; clear h0
    go_enter Tryz.func31, Tryz.ntmps31
    go_wp2_with fail
    refine HL.out.mono ?_
    rintro e w1 ⟨rfl, F1, hd1, hf1, hx1⟩
    rw [H0.out]
    have c0 := (HJ.out.keep hf1 HNI.out).cell 0
    simp at c0
    have HD1 := Lib.hid hd1
    have HF1 := Lib.hid hf1
    have HX1 := Lib.hid hx1
    clear hd1 hf1 hx1
    go_wp2_with fail
    refine (sync_any HD1.out).mono ?_
    rintro e w2 ⟨rfl, hd2⟩
    have HD2 := Lib.hid hd2; clear hd2
    go_wp2
    go_ret
    refine ⟨by rw [H0.out]; rfl, ?_⟩
    rw [HS.out]
    obtain ⟨F2, hd2, hf2, hx2⟩ := HD2.out
    refine ⟨F2, hd2, HF1.out.trans hf2 (fun x h => h) HX1.out, fun x h => ?_⟩
    rcases hx2 x h with h1 | h1
    · exact HX1.out x h1
    · right; have := HF1.out.size; omega
  · obtain ⟨k, hk⟩ : ∃ k, k = jc l b room := ⟨_, rfl⟩
    have hjs : js l b s room = s := by unfold js; rw [if_neg h0]
    have HS := Lib.hid hjs; clear hjs
    rw [← hk] at h0
    have HK := Lib.hid hk; clear hk
    go_enter Tryz.func31, Tryz.ntmps31
    go_wp2_with fail
    refine HL.out.mono ?_
    rintro e w1 ⟨rfl, hd1⟩
    rw [← HK.out]
    have HD1 := Lib.hid hd1; clear hd1
    go_wp2
    go_ret
    exact ⟨by rw [← HK.out]; rfl, by rw [HS.out]; exact HD1.out⟩

/-- What Open leaves. -/
structure Opened (w w' : World) (B p : Nat) (F l : List Nat) (room q : Nat) (F' : List Nat) (a : Option Addr) (cap : Nat) (vs : List Value) : Prop where
  dk : Dk w' B p F' (l.take (recN l)) (recN l) room
  frm : Frm F w w'
  new : ∀ x ∈ F', x ∈ F ∨ w.heap.size ≤ x
  jn : Jn w' q p
  qlt : w.heap.size ≤ q
  own : OwnL w' w.heap.size 36 F' a cap (recs l) vs
def OpenEnd (w : World) (B p : Nat) (F l : List Nat) (room : Nat) (e : Ending) (w' : World) : Prop :=
  ∃ q F' a cap vs, e = .returned (.tuple #[.pointer (some ⟨q, 0, none⟩), .slice a (recs l).length cap, .int .i64 0]) ∧ Opened w w' B p F l room q F' a cap vs

set_option maxHeartbeats 1000000 in
theorem jopen_any {w : World} {B p : Nat} {F l : List Nat} {s room : Nat} (h : Dk w B p F l s room) :
    Calls Tryz.prog 49 #[.pointer (some ⟨p, 0, none⟩)] w (OpenEnd w B p F l room) := by
  have hlr := h.1.2.2
  have hlt := h.lt
  have HW := Lib.hid (recs_whole l h.1.1)
  have H := Lib.hid h; clear h
  have HLT := Lib.hid hlt; clear hlt
  go_enter Tryz.func49, Tryz.ntmps49
  go_wp2_with fail
  refine (dbytes_any H.out).mono ?_
  rintro e w1 ⟨a1, c1, rfl, ho1, hf1⟩
  have hcl := own_cl ho1 H.out.1.1
  have HC1 := Lib.hid hcl
  have HF1 := Lib.hid hf1
  have hc1m := hcl.fits
  clear ho1 hf1 hcl
  obtain ⟨n, hn⟩ : ∃ n, n = l.length := ⟨_, rfl⟩
  rw [← hn] at hlr ⊢
  have HN := Lib.hid hn; clear hn
  go_wp2_with fail
  refine (bodies_any a1 n c1 l F w1 HC1.out.bytes HN.out (by rw [HN.out]; exact HC1.out.le) HC1.out.nil (by omega) (by omega) (fun x hx => by have := (HLT.out x hx).2; have := HF1.out.size; omega)).mono ?_
  rintro e w2 ⟨a2, c2, vs, rfl, hown, hf2⟩
  have HF2 := Lib.hid (HF1.out.trans hf2 (U := []) (by simp) (by simp))
  have HO2 := Lib.hid hown
  have HS12 := Lib.hid HF1.out.size
  clear hown hf2
  obtain ⟨m, hm⟩ : ∃ m, m = recN l := ⟨_, rfl⟩
  have HML : Hid (m ≤ l.length) := by have := HW.out.2.2.2; show m ≤ _; omega
  rw [← hm]
  have HM := Lib.hid hm; clear hm
  obtain ⟨k, hk⟩ : ∃ k, k = (recs l).length := ⟨_, rfl⟩
  rw [← hk]
  have HK := Lib.hid hk; clear hk
  go_wp2_with fail
  refine (cutm_ok m (H.out.keep HF2.out (by simp)) HML.out).mono ?_
  rintro e w3 ⟨rfl, F3, hd3, hf3, hx3⟩
  have HD3 := Lib.hid hd3
  have HF3 := Lib.hid hf3
  have HX3 := Lib.hid hx3
  clear hd3 hf3 hx3
  go_wp2_with fail
  refine (sync_any HD3.out).mono ?_
  rintro e w4 ⟨rfl, F4, hd4, hf4, hx4⟩
  have HD4 := Lib.hid hd4
  have HF4 := Lib.hid hf4
  have HX4 := Lib.hid hx4
  clear hd4 hf4 hx4
  go_wp2
  go_ret3
  have hf5 : Frm [] w4 (w4.alloc (.cells #[.pointer (some ⟨p, 0, none⟩)] 136)) := (Frm.refl _ _).alloc _
  have hln : (l.take m).length = m := by rw [List.length_take]; have := HML.out; omega
  have hd4 := HD4.out
  rw [hln] at hd4
  have f24 : Frm F w w4 := (HF2.out.weak (U := F) (by simp)).trans (HF3.out.trans HF4.out (fun x h => h) HX3.out) (fun x h => h) (fun x h => .inl h)
  have x34 : ∀ x ∈ F4, x ∈ F ∨ w2.heap.size ≤ x := fun x h => by
    rcases HX4.out x h with h1 | h1
    · exact HX3.out x h1
    · right; have := HF3.out.size; omega
  refine ⟨w4.heap.size, F4, a2, c2, vs, by rw [← HK.out]; rfl, ⟨by rw [← HM.out]; exact hd4.keep hf5 (by simp), f24.trans hf5 (fun x h => h) (by simp), fun x h => ?_, Whole.made _ _ _, f24.size, ?_⟩⟩
  · rcases x34 x h with h1 | h1
    · exact .inl h1
    · right; have := HF2.out.size; omega
  · have h1 := HO2.out.keep (F' := F3) HF3.out (fun x h => .inl h) HX3.out
    have h2 := h1.keep (F' := F4) HF4.out (fun x h => .inl h) HX4.out
    have h3 := h2.keep (F' := F4) hf5 (by simp) (fun x h => .inl h)
    have hb := HS12.out
    exact ⟨own_base h3.own hb, h3.ents, h3.away⟩
end Go.Proofs.YtcbpppdmkhpkkaaGreat
