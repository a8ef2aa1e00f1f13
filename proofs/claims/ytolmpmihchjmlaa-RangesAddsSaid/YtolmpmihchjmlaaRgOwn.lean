/- Rows of ranges that a call makes: appending ranges; Clone, Grow, Concat. -/
import Derived.Test.YtolmpmihchjmlaaRgCheck
import Derived.Maps.AppendAt
import Derived.Deep.RegionLaw
import Derived.WalkSpells
import Derived.Lib.AppendZerosOnto
import Derived.Lib.Walk
import Derived.Lib.SliceRun
namespace Go.Proofs.Ytolmpmihchjmlaa
open Go.RowKit

theorem Try.info51 : (Try.prog.info? 51).map (fun i => (i.zero, i.size, i.bytes)) = some (some (.agg #[.int .u64 0, .int .u64 0]), 2, 16) := by kernel_rfl

/-- Ranges, cell by cell. -/
def fl (l : List Rg) : List Value := l.flatMap fun p => [.int .u64 (p.1 : Nat), .int .u64 (p.2 : Nat)]
theorem fl_append (a b : List Rg) : fl (a ++ b) = fl a ++ fl b := by unfold fl; simp
theorem fl_length (l : List Rg) : (fl l).length = l.length * 2 := by
  induction l with
  | nil => rfl
  | cons p l ih => unfold fl at ih ⊢; simp at ih ⊢; omega
theorem fl_one (l : List Rg) : ∀ u ∈ fl l, u.oneCell' = true := by
  intro u hu
  unfold fl at hu
  simp at hu
  obtain ⟨a, b, _, h | h⟩ := hu <;> subst h <;> rfl
theorem fl_at (l : List Rg) : ∀ i, i < l.length → (fl l)[i * 2]? = some (.int .u64 ((l.getD i (0, 0)).1 : Nat)) ∧ (fl l)[i * 2 + 1]? = some (.int .u64 ((l.getD i (0, 0)).2 : Nat)) := by
  induction l with
  | nil => intro i hi; simp at hi
  | cons p l ih =>
    intro i hi
    have e : fl (p :: l) = .int .u64 (p.1 : Nat) :: .int .u64 (p.2 : Nat) :: fl l := rfl
    rw [e]
    rcases i with _ | i
    · exact ⟨rfl, rfl⟩
    · have := ih i (by simpa using hi)
      have h1 : (i + 1) * 2 = i * 2 + 1 + 1 := by omega
      rw [h1]
      simpa using this
theorem rr_news {w : World} {b off : Nat} {l : List Rg} (h : ∀ i, i < l.length → w.cell? ⟨b, off + i * 2, none⟩ = some (.int .u64 ((l.getD i (0, 0)).1 : Nat)) ∧ w.cell? ⟨b, off + i * 2 + 1, none⟩ = some (.int .u64 ((l.getD i (0, 0)).2 : Nat))) :
    ∀ j u, (fl l)[j]? = some u → w.cell? ((⟨b, off, none⟩ : Addr).add j) = some u := by
  intro j u hu
  have hj : j < l.length * 2 := by
    rcases Nat.lt_or_ge j (l.length * 2) with h' | h'
    · exact h'
    · rw [List.getElem?_eq_none (by rw [fl_length]; exact h')] at hu; cases hu
  rw [addr_add]
  have hi := h (j / 2) (by omega)
  have hf := fl_at l (j / 2) (by omega)
  rcases Nat.mod_two_eq_zero_or_one j with hm | hm
  · have e : j / 2 * 2 = j := by omega
    rw [e] at hi hf
    rw [hf.1] at hu; cases hu; exact hi.1
  · have e : j / 2 * 2 + 1 = j := by omega
    rw [Nat.add_assoc, e] at hi
    rw [e] at hf
    rw [hf.2] at hu; cases hu; exact hi.2

def Bd (l : List Rg) : Prop := ∀ p ∈ l, p.1 < 18446744073709551616 ∧ p.2 < 18446744073709551616
theorem Bd.append {a b : List Rg} (h : Bd a) (k : Bd b) : Bd (a ++ b) := fun p hp => (List.mem_append.1 hp).elim (h p) (k p)

/-- A row of the call's own with the ranges l. -/
def OwnR (w : World) (base : Nat) (a : Option Addr) (cap : Nat) (l : List Rg) : Prop := w.ownsRow base 51 2 (.slice a l.length cap) l.length (fl l)
theorem OwnR.rr {w : World} {base : Nat} {a : Option Addr} {cap : Nat} {l : List Rg} (h : OwnR w base a cap l) (hb : Bd l) : Rr w a l ∧ (a = none → cap = 0) ∧ l.length ≤ cap ∧ cap ≤ maxLen := by
  refine ⟨⟨hb, fun h0 => ?_⟩, ?_⟩
  · rcases h.2 with ⟨_, h1⟩ | ⟨g, cap', cur, hv, hb, hg, hnc, hcm, hcs, ht⟩
    · omega
    · simp only [Value.slice.injEq] at hv
      obtain ⟨rfl, _, rfl⟩ := hv
      refine ⟨g, 0, rfl, fun i hi => ?_⟩
      have hh : w.ownsRow base 51 2 (.slice (some ⟨g, 0, none⟩) l.length cap) l.length (fl l) := h
      have f := fl_at l i hi
      rw [Nat.zero_add, hh.cellAt (i * 2) (by omega), hh.cellAt (i * 2 + 1) (by omega)]
      exact f
  · rcases h.2 with ⟨hv, h1⟩ | ⟨g, cap', cur, hv, hb, hg, hnc, hcm, hcs, ht⟩
    · simp only [Value.slice.injEq] at hv
      exact ⟨fun _ => hv.2.2, by omega, by rw [hv.2.2]; simp⟩
    · simp only [Value.slice.injEq] at hv
      obtain ⟨rfl, _, rfl⟩ := hv
      exact ⟨fun h => by simp at h, hnc, hcm⟩
theorem OwnR.keep {w w' : World} {base : Nat} {a : Option Addr} {cap : Nat} {l : List Rg} {S : List Nat} (h : OwnR w base a cap l) (hf : Frm S w w') (hn : ∀ x, a = some x → x.block ∉ S) : OwnR w' base a cap l :=
  hf.own h (fun g hg => by
    cases a with
    | none => simp [Value.ownBlock] at hg
    | some x => simp only [Value.ownBlock, Option.some.injEq] at hg; subst hg; exact hn x rfl)
theorem OwnR.lt {w : World} {base : Nat} {a : Option Addr} {cap : Nat} {l : List Rg} (h : OwnR w base a cap l) : ∀ x, a = some x → base ≤ x.block ∧ x.block < w.heap.size := fun x hx => World.ownsRow.lt h x.block (by rw [hx]; rfl)
theorem OwnR.nil (w : World) (base : Nat) : OwnR w base none 0 [] := World.ownsRow_nil _ _ _ _

section
variable {P : Program} {w : World}
/-- What appending the ranges l to an owned value leaves. -/
structure AppR (w w' : World) (base : Nat) (e : TypeId) (v : Value) (n m : Nat) (xs : List Value) (l : List Rg) (a' : Option Addr) (cap' : Nat) : Prop where
  own : w'.ownsRow base e 2 (.slice a' (n + m) cap') (n + m) (xs ++ fl l)
  grown : w.grownBy w' v.ownBlock
  place : (Value.slice a' (n + m) cap').ownBlock = v.ownBlock ∨ (Value.slice a' (n + m) cap').ownBlock = some w.heap.size

theorem run_appR (base : Nat) (t ty e : TypeId) (i : TypeInfo) (ht : P.underlying t = some (.slice e)) (hi : P.info? e = some i) (hz : i.zero = some (.agg #[.int .u64 0, .int .u64 0]))
    (hsize : i.size = 2) (hby : i.bytes = 16) (v : Value) (n : Nat) (xs : List Value) (hown : w.ownsRow base e 2 v n xs)
    (ad : Option Addr) (m c : Nat) (l : List Rg) (hB : Rr w ad l) (hm : m = l.length) (hnil : ad = none → c = 0)
    (hfit : n + m ≤ 1000000) (hbase : base ≤ w.heap.size) :
    ∃ a' cap' w', (Builtin.append_ #[t, t] ty #[v, .slice ad m c]).run P w = .ok (.slice a' (n + m) cap') w' ∧ AppR w w' base e v n m xs l a' cap' := by
  have shape : ∀ (v' : Value) (w' : World) (k : Nat) (ys : List Value), w'.ownsRow base e 2 v' k ys → ∃ a' cap', v' = .slice a' k cap' := by
    intro v' w' k ys h
    rcases h.2 with ⟨hv, h0⟩ | ⟨g, cap', cur, hv, _⟩
    · exact ⟨none, 0, by rw [hv, h0]⟩
    · exact ⟨_, cap', hv⟩
  have hll := fl_length l
  cases ad with
  | none =>
    have hc0 := hnil rfl
    subst hc0
    have hl0 : l = [] := by
      rcases Nat.eq_zero_or_pos l.length with h | h
      · exact List.eq_nil_of_length_eq_zero h
      · obtain ⟨b, off, h, _⟩ := hB.2 h; cases h
    subst hl0
    have hm0 : m = 0 := by simpa using hm
    subst hm0
    obtain ⟨a', cap', hv⟩ := shape v w n xs hown
    subst hv
    exact ⟨a', cap', w, run_append_owned_none (P := P) (w := w) base t ty e i 2 ht hi _ n xs hown, by simpa [fl] using hown, World.grownBy.refl _ _, .inl rfl⟩
  | some x =>
    have hnews : ∀ j u, (fl l)[j]? = some u → w.cell? (x.add j) = some u := by
      rcases Nat.eq_zero_or_pos l.length with h | h
      · have : l = [] := List.eq_nil_of_length_eq_zero h
        subst this; intro j u hu; simp [fl] at hu
      · obtain ⟨b, off, h, hh⟩ := hB.2 h; cases h; exact rr_news hh
    obtain ⟨v', w', hr, ho, hg, _, hpl⟩ := run_append_own_at (P := P) w base t ty e i (.agg #[.int .u64 0, .int .u64 0]) 2 16 ht hi hz hsize hby rfl (by decide) v n xs hown x m c (fl l) (by rw [hll, hm]) hnews (fl_one l) (by unfold maxLen; omega) (by omega) hbase
    obtain ⟨a', cap', hv⟩ := shape v' w' (n + m) _ ho
    subst hv
    exact ⟨a', cap', w', hr, ho, hg, hpl⟩

theorem wpList_appR {ops : Array Oper} {rest : List Oper} {o : Oper} {a : Act} {Q : Exit → Act → World → Prop} (hgd : o.guard = none) (s x : Operand) (t : TypeId)
    (ho : o.op = .call { callee := .builtin .append, args := #[s, x], argTypes := #[t, t] })
    (base : Nat) (e : TypeId) (i : TypeInfo) (ht : P.underlying t = some (.slice e)) (hi : P.info? e = some i) (hz : i.zero = some (.agg #[.int .u64 0, .int .u64 0]))
    (hsize : i.size = 2) (hby : i.bytes = 16) (v : Value) (n : Nat) (xs : List Value) (hs : a.eval s = v) (hown : w.ownsRow base e 2 v n xs)
    (ad : Option Addr) (m c : Nat) (l : List Rg) (hx : a.eval x = .slice ad m c) (hB : Rr w ad l) (hm : m = l.length) (hnil : ad = none → c = 0)
    (hfit : n + m ≤ 1000000) (hbase : base ≤ w.heap.size)
    (h : ∀ a' cap' w', AppR w w' base e v n m xs l a' cap' → wpList P ops Q rest (a.put o.dst (.slice a' (n + m) cap')) w') : wpList P ops Q (o :: rest) a w := by
  refine wpList_plain hgd fun K hK => ?_
  obtain ⟨a', cap', w', hr, h2⟩ := run_appR (P := P) base t o.type e i ht hi hz hsize hby v n xs hown ad m c l hB hm hnil hfit hbase
  unfold Oper.wp execOp
  simp only [ho, resolve, invoke, builtin, Sem.run_bind, Sem.run_pure, Result.andThen_ok, List.map_toArray, List.map_cons, List.map_nil, hs, hx, hr]
  exact hK _ _ (h a' cap' w' h2)

theorem step_appR {ops : Array Oper} {o : Oper} {a : Act} {K : Act → World → Prop} {Q : Exit → Act → World → Prop} {E : Prop} (hgd : o.guard = none) (s x : Operand) (t : TypeId)
    (ho : o.op = .call { callee := .builtin .append, args := #[s, x], argTypes := #[t, t] })
    (base : Nat) (e : TypeId) (i : TypeInfo) (ht : P.underlying t = some (.slice e)) (hi : P.info? e = some i) (hz : i.zero = some (.agg #[.int .u64 0, .int .u64 0]))
    (hsize : i.size = 2) (hby : i.bytes = 16) (v : Value) (n : Nat) (xs : List Value) (hs : a.eval s = v) (hown : w.ownsRow base e 2 v n xs)
    (ad : Option Addr) (m c : Nat) (l : List Rg) (hx : a.eval x = .slice ad m c) (hB : Rr w ad l) (hm : m = l.length) (hnil : ad = none → c = 0)
    (hfit : n + m ≤ 1000000) (hbase : base ≤ w.heap.size)
    (h : ∀ a' cap' w', AppR w w' base e v n m xs l a' cap' → K (a.put o.dst (.slice a' (n + m) cap')) w') :
    if Region.wanted o (yielded ops a.tmps) = true then Oper.wp P o a w K Q else E := by
  have hw : Region.wanted o (yielded ops a.tmps) = true := by simp [Region.wanted, hgd]
  rw [if_pos hw]
  obtain ⟨a', cap', w', hr, h2⟩ := run_appR (P := P) base t o.type e i ht hi hz hsize hby v n xs hown ad m c l hB hm hnil hfit hbase
  unfold Oper.wp execOp
  simp only [ho, resolve, invoke, builtin, Sem.run_bind, Sem.run_pure, Result.andThen_ok, List.map_toArray, List.map_cons, List.map_nil, hs, hx, hr]
  exact h a' cap' w' h2
end

/-- What a call hands back that makes ranges of its own. -/
def RetR (w : World) (l : List Rg) (e : Ending) (w' : World) : Prop := ∃ a' cap', e = .returned (.slice a' l.length cap') ∧ OwnR w' w.heap.size a' cap' l ∧ Frm [] w w'
theorem frm_app {S : List Nat} {w w1 w2 : World} {base : Nat} {e : TypeId} {a : Option Addr} {n n' cap m : Nat} {xs : List Value} {l : List Rg} {a' : Option Addr} {cap' : Nat} (hf : Frm S w w1) (h : AppR w1 w2 base e (.slice a n' cap) n m xs l a' cap') (ha : ∀ x, a = some x → x.block ∈ S ∨ w.heap.size ≤ x.block) : Frm S w w2 :=
  hf.grown h.grown (fun k hk => by
    cases a with
    | none => simp [Value.ownBlock] at hk
    | some x => simp only [Value.ownBlock, Option.some.injEq] at hk; subst hk; exact ha x rfl)

set_option maxHeartbeats 1000000 in
theorem cloneR_any {w : World} {a : Option Addr} {l : List Rg} (h : Rr w a l) {n cap : Nat} (hn : n = l.length) (hnil : a = none → cap = 0) (hsz : n ≤ 100000) :
    Calls Try.prog 53 #[.slice a n cap] w (RetR w l) := by
  have hq := fun (w : World) (a : Option Addr) (n c n' c' : Nat) => Lib.run_eql_slice_nil (P := Try.prog) w 44 51 a n c n' c' Try.underlying44
  cases a with
  | none =>
    have h0 : l = [] := by
      rcases Nat.eq_zero_or_pos l.length with h1 | h1
      · exact List.eq_nil_of_length_eq_zero h1
      · obtain ⟨b, off, h, _⟩ := h.2 h1; cases h
    subst h0
    obtain rfl := hnil rfl
    subst hn
    go_enter Try.func53, Try.ntmps53
    go_wp2
    go_ret
    exact ⟨none, 0, rfl, OwnR.nil _ _, Frm.refl _ _⟩
  | some x =>
    obtain ⟨i0, hi, hz0, hz1, hz2⟩ := info_parts Try.info51
    have HL := Lib.hid h; clear h
    have HN := Lib.hid hn; clear hn
    have HI := Lib.hid hi; clear hi
    have HZ0 := Lib.hid hz0; clear hz0
    have HZ1 := Lib.hid hz1; clear hz1
    have HZ2 := Lib.hid hz2; clear hz2
    clear hnil
    go_enter Try.func53, Try.ntmps53
    go_wp2_with (at_builtin; refine wpList_appR rfl (.tmp 5) (.tmp 6) 44 rfl w.heap.size 51 i0 Try.underlying44 HI.out HZ0.out HZ1.out HZ2.out _ 0 [] rfl ?own1 _ _ _ l rfl ?b1 HN.out ?nil1 ?fit1 ?base1 ?_)
    case own1 => exact World.ownsRow_lit w #[] 0 (Nat.le_refl _) (by unfold maxLen; omega) rfl
    case b1 => exact HL.out.keep0 ((Frm.refl [] w).alloc _)
    case nil1 => intro h; cases h
    case fit1 => omega
    case base1 => simp
    intro a2 cap2 w2 happ
    have HF := Lib.hid (frm_app ((Frm.refl [] w).alloc _) happ (fun x hx => .inr (by cases hx; simp)))
    have ho : OwnR w2 w.heap.size a2 cap2 l := by
      have h1 := happ.own
      rw [HN.out] at h1
      simpa [OwnR] using h1
    have HO := Lib.hid ho
    clear happ ho
    go_wp2
    go_ret
    have h := HN.out
    subst h
    exact ⟨a2, cap2, rfl, HO.out, HF.out⟩
end Go.Proofs.Ytolmpmihchjmlaa
