/- Contracts and mathematics that the proofs of this seat stand on: OwDef, OwRd, KvLook, OwInv, MtKv, MtAll, MtPair, OwKp, OwCnt, OwAcqM, OwPAcq, OwPRel, OwPHld, OwSes, OwOneM, OwKeep, OwKo, OwNum, DsCopy, DsSays, OwRel, OwAcq, DsMore, OwTq. -/
import Derived.Test.YtcbpppdmkhpkkaaGreatKD
import Derived.Test.YtcbpppdmkhpkkaaGreatKE
import Derived.Test.YtcbpppdmkhpkkaaGreatKF
import Derived.Test.YtcbpppdmkhpkkaaGreatKA
import Derived.Test.YtcbpppdmkhpkkaaGreatKC
import Derived.Deep.LoopGhost
import Derived.Deep.RegionHeld3
import Derived.BigQuiet
import Derived.Test.YtcbpppdmkhpkkaaGreatKB
import Derived.Test.YtcbpppdmkhpkkaaGreatKG
import Derived.Deep.RegionHeld
import Derived.Deep.DeepCutAuto
/- Owners of bundles in plain words: keys, numbers as values, what Acquire and Release answer and make of a keeper's state. Of no program. -/
namespace Go.Proofs.YtcbpppdmkhpkkaaGreat
open Go.RowKit

def ownK (b : ByteArray) : ByteArray := ⟨#[111, 119, 110, 47]⟩ ++ b
def epK (b : ByteArray) : ByteArray := ⟨#[101, 112, 111, 99, 104, 47]⟩ ++ b
theorem ownK_size (b : ByteArray) : (ownK b).size = b.size + 4 := by
  unfold ownK; rw [ByteArray.size_append]; show 4 + b.size = _; omega
theorem epK_size (b : ByteArray) : (epK b).size = b.size + 6 := by
  unfold epK; rw [ByteArray.size_append]; show 6 + b.size = _; omega
/-- The number of a value: 0, if it isn't eight bytes. -/
def numB (v : List Nat) : Nat := if v.length = 8 then val v else 0
theorem numB_lt {v : List Nat} (h : ∀ x ∈ v, x < 256) : numB v < 18446744073709551616 := by
  unfold numB
  split
  · rename_i h8
    have := val_lt v h
    rw [h8] at this
    exact Nat.lt_of_lt_of_le this (by decide)
  · decide
def acqC1 (ses broker : Nat) (b : ByteArray) : MC := { kind := 1, key := ownK b, val := be 8 broker, ses := ses }
def acqN (S : MS) (b : ByteArray) : Nat := (numB (getN S.nodes (epK b)).v + 1) % 18446744073709551616
def acqC2 (S : MS) (b : ByteArray) : MC := { kind := 1, key := epK b, val := be 8 (acqN S b), want := (getN S.nodes (epK b)).ver }
/-- The state behind Acquire, its number, its error. -/
def acqS (S : MS) (ses broker : Nat) (b : ByteArray) : MS :=
  if ses = 0 then S else if isN S.nodes (ownK b) = true then S else if doE S (acqC1 ses broker b) ≠ 0 then doS S (acqC1 ses broker b)
  else doS (doS S (acqC1 ses broker b)) (acqC2 (doS S (acqC1 ses broker b)) b)
def acqE (S : MS) (ses broker : Nat) (b : ByteArray) : Nat :=
  if ses = 0 then 15 else if isN S.nodes (ownK b) = true then 50 else if doE S (acqC1 ses broker b) ≠ 0 then doE S (acqC1 ses broker b)
  else doE (doS S (acqC1 ses broker b)) (acqC2 (doS S (acqC1 ses broker b)) b)
def acqR (S : MS) (ses broker : Nat) (b : ByteArray) : Nat := if acqE S ses broker b = 0 then acqN (doS S (acqC1 ses broker b)) b else 0
def relC (S : MS) (b : ByteArray) : MC := { kind := 2, key := ownK b, want := (getN S.nodes (ownK b)).ver }
def relE (S : MS) (ses : Nat) (b : ByteArray) : Nat := if isN S.nodes (ownK b) = false then 11 else if (getN S.nodes (ownK b)).own ≠ ses then 50 else doE S (relC S b)
def relS (S : MS) (ses : Nat) (b : ByteArray) : MS := if isN S.nodes (ownK b) = false then S else if (getN S.nodes (ownK b)).own ≠ ses then S else doS S (relC S b)
theorem acqC1_ok {ses broker : Nat} {b : ByteArray} (h1 : ses < 18446744073709551616) (hb : b.size ≤ 4000) : MCOk (acqC1 ses broker b) :=
  ⟨by show 1 < 256; decide, by show (ownK b).size ≤ 5000; rw [ownK_size]; omega, ⟨by show (be 8 broker).length ≤ 5000; rw [be_length]; decide, be_lt 8 broker⟩, by show 0 < 18446744073709551616; decide, h1, by show 0 < 18446744073709551616; decide⟩
theorem getN_ver {S : MS} (h : MOk S) (s : ByteArray) : (getN S.nodes s).ver < 18446744073709551616 ∧ (getN S.nodes s).own < 18446744073709551616 := by
  unfold getN
  split
  · rename_i his
    have hi : ixN S.nodes s < S.nodes.length := by unfold isN at his; simp at his; exact his.1
    have hm : S.nodes.getD (ixN S.nodes s) default ∈ S.nodes := by simp [hi]
    exact ⟨h.ver _ hm, h.own _ hm⟩
  · exact ⟨by decide, by decide⟩
theorem acqC2_ok {S : MS} {b : ByteArray} (h : MOk S) (hb : b.size ≤ 4000) : MCOk (acqC2 S b) :=
  ⟨by show 1 < 256; decide, by show (epK b).size ≤ 5000; rw [epK_size]; omega, ⟨by show (be 8 _).length ≤ 5000; rw [be_length]; decide, be_lt 8 _⟩, (getN_ver h _).1, by show 0 < 18446744073709551616; decide, by show 0 < 18446744073709551616; decide⟩
theorem relC_ok {S : MS} {b : ByteArray} (h : MOk S) (hb : b.size ≤ 4000) : MCOk (relC S b) :=
  ⟨by show 2 < 256; decide, by show (ownK b).size ≤ 5000; rw [ownK_size]; omega, ⟨by show ([] : List Nat).length ≤ 5000; decide, by intro x hx; cases hx⟩, (getN_ver h _).1, by show 0 < 18446744073709551616; decide, by show 0 < 18446744073709551616; decide⟩
end Go.Proofs.YtcbpppdmkhpkkaaGreat
/- Contract of the program's number: of a value, by pack.Read. -/
namespace Go.Proofs.YtcbpppdmkhpkkaaGreat
open Go.RowKit
set_option maxRecDepth 100000
theorem enters_own (args : Array Value) (w : World) : (callFunc 73 args).run Tryz.prog w = .ok (.enter 73 args) w := by
  kernel_rfl
/-- What by leaves. -/
def OwBy (w1 : World) (x rb cb db : Nat) (l : List Nat) (e : Ending) (w2 : World) : Prop :=
  (l.length < 8 ∧ Thrown w1 rb cb 4 e w2) ∨
  (8 ≤ l.length ∧ e = .returned (.tuple #[]) ∧ Whole w2 x 27 #[.int .u64 (val (l.take 8) : Nat)] ∧ Rdr w2 rb cb db (l.drop 8) ∧ Frm [rb, x] w1 w2)
set_option maxHeartbeats 2000000 in
theorem owby_any {w1 : World} {rb cb db x : Nat} {l : List Nat} (h : Rdr w1 rb cb db l) (hdb : db < w1.heap.size) (hx : Whole w1 x 27 #[.int .u64 0]) (hn : x ≠ rb ∧ x ≠ cb ∧ x ≠ db) :
    Calls Tryz.prog 73 #[.pointer (some ⟨rb, 0, none⟩), .pointer (some ⟨x, 0, none⟩)] w1 (OwBy w1 x rb cb db l) := by
  obtain ⟨Q, hQ⟩ : ∃ Q, Q = OwBy w1 x rb cb db l := ⟨_, rfl⟩
  rw [← hQ]
  have HQ := Lib.hid hQ
  clear hQ
  by_cases h8 : 8 ≤ l.length
  · have U := Lib.hid (ru64_ok h h8 hdb)
    have HX := Lib.hid hx
    have HN := Lib.hid hn
    have H8 := Lib.hid h8
    obtain ⟨v, hv⟩ : ∃ v, v = val (l.take 8) := ⟨_, rfl⟩
    have HV := Lib.hid hv
    rw [← hv] at U
    clear h hdb hx hn h8 hv
    unfold PkGot at U
    go_enter Tryz.func73, Tryz.ntmps73
    go_wp2_with fail
    (with_reducible refine U.out.mono ?_)
    rintro e w2 ⟨rfl, hr, hf⟩
    have b2 := hf.whole HX.out (by have := HN.out; simp; omega)
    have x0 := b2.cell 0
    have k0 := b2.free 0
    simp only [List.getElem?_toArray, List.getElem?_cons_zero] at x0
    have FIN : Hid (Q (.returned (.tuple #[])) (w2.setCell ⟨x, 0, none⟩ (.int .u64 (v : Nat)))) := Lib.hid (by
      have FG : Frm [x] w2 (w2.setCell ⟨x, 0, none⟩ (.int .u64 (v : Nat))) := (Frm.refl _ _).setCell (.inl (by simp)) _
      rw [HQ.out]
      refine .inr ⟨H8.out, rfl, ?_, hr.keep FG (by have := HN.out; simp; omega) (by have := HN.out; simp; omega) (by have := HN.out; simp; omega), hf.trans FG (by simp) (by simp)⟩
      rw [← HV.out]
      have := b2.put 0 (.int .u64 (v : Nat))
      simpa using this)
    clear hr hf b2
    go_wp2
    go_end0
    exact FIN.out
  · have U := Lib.hid (ru64_short h (by omega))
    have H8 := Lib.hid h8
    clear h hdb hx hn h8
    go_enter Tryz.func73, Tryz.ntmps73
    go_wp2_with fail
    (with_reducible refine U.out.mono ?_)
    intro e w2 ht
    have hb : Q e w2 := by rw [HQ.out]; exact .inl ⟨by have := H8.out; omega, ht⟩
    obtain ⟨rfl, _⟩ := ht
    exact ⟨rfl, hb⟩
set_option maxHeartbeats 4000000 in
theorem ownum_any (a : Option Addr) (n cap : Nat) (l : List Nat) (w : World) (hl : Bytes w a l) (hn : n = l.length) (hnil : a = none → cap = 0) (hfit : n ≤ 140737488355328) :
    Calls Tryz.prog 41 #[.slice a n cap] w fun e w' => e = .returned (.int .u64 (numB l : Nat)) ∧ Frm [] w w' := by
  obtain ⟨w0, hw0⟩ : ∃ w0, w0 = w.alloc (.cells #[.int .u64 0] 27) := ⟨_, rfl⟩
  obtain ⟨g, hg⟩ : ∃ g, g = w.heap.size := ⟨_, rfl⟩
  have F0 : Hid (Frm [] w w0) := Lib.hid (by rw [hw0]; exact (Frm.refl _ _).alloc _)
  have B0 : Hid (Whole w0 g 27 #[.int .u64 0]) := Lib.hid (by rw [hw0, hg]; exact Whole.made _ _ _)
  have GS : Hid (g = w.heap.size) := Lib.hid hg
  have HL0 := F0.out.bytes hl (by simp)
  have BY : ∀ w1 rb cb db, Told w0 w1 rb cb db l → Calls Tryz.prog 73 (#[.pointer (some ⟨rb, 0, none⟩)] ++ #[.pointer (some ⟨g, 0, none⟩)]) w1 (OwBy w1 g rb cb db l) := fun w1 rb cb db ht => by
    have h1 := B0.out.lt
    have h2 := ht.hr
    have h3 := ht.hc
    have h4 := ht.hd
    exact owby_any ht.rdr ht.dlt (ht.frm.whole B0.out (by simp)) (by omega)
  -- what Read answers
  have RD : Hid (Calls Tryz.prog 72 #[.slice a n cap, .func (.func 73) #[] #[.pointer (some ⟨g, 0, none⟩)]] w0 (fun e w' => ∃ code : Nat, e = .returned (.int .i64 (code : Nat)) ∧ Hid (Frm [g] w0 w') ∧ (code = 0 → Whole w' g 27 #[.int .u64 (numB l : Nat)]) ∧ (code ≠ 0 → numB l = 0))) := Lib.hid (by
    have hgl := B0.out.lt
    by_cases h8 : 8 ≤ l.length
    rotate_left 1
    · refine (read_throw8 73 #[.pointer (some ⟨g, 0, none⟩)] a n cap l w0 (fun w2 => Frm [] w0 w2) (fun c => c = ((4 : Nat) : Int)) HL0 hn hnil hfit enters_own (fun w1 rb cb db ht => (BY w1 rb cb db ht).mono ?_)).mono ?_
      · rintro e w2 (⟨_, ht2⟩ | ⟨h, _⟩)
        · have h2 := ht.hr
          have h3 := ht.hc
          exact ⟨_, rfl, ht2.1, [rb, cb], ht.frm.trans ht2.2.2 (by simp) (fun y hy => .inr (by simp at hy; omega)), ht2.2.1, ht2.2.2, fun y hy => by simp at hy; omega⟩
        · exact absurd h h8
      · rintro e w' ⟨w2, c, T, rfl, ⟨hq, hc⟩, hT, hTm⟩
        subst hc
        exact ⟨4, rfl, Lib.hid (hq.trans hT (by simp) (fun y hy => .inr (hTm y hy).1)), (fun h => by cases h), fun _ => by unfold numB; rw [if_neg (by omega)]⟩
    · refine (read_ret8 73 #[.pointer (some ⟨g, 0, none⟩)] a n cap l w0 (fun w2 rest => rest = l.drop 8 ∧ Whole w2 g 27 #[.int .u64 (val (l.take 8) : Nat)] ∧ Frm [g] w0 w2) HL0 hn hnil hfit enters_own (fun w1 rb cb db ht => (BY w1 rb cb db ht).mono ?_)).mono ?_
      · rintro e w2 (⟨h, _⟩ | ⟨_, he, hw, hr, hf⟩)
        · exfalso; omega
        · have h5 := ht.hr
          exact ⟨he, l.drop 8, [rb, g], ⟨rfl, hw, ht.frm.trans hf (by simp) (fun y hy => by
            simp at hy
            rcases hy with rfl | rfl
            · exact .inr h5
            · exact .inl (by simp))⟩, hr, hf, fun y hy => by simp at hy; omega⟩
      · rintro e w' ⟨w2, c, T, rfl, ⟨rest, ⟨rfl, hw, hfr⟩, hc⟩, hT, hTm⟩
        have hfw : Frm [g] w0 w' := hfr.trans hT (fun y hy => hy) (fun y hy => .inr (hTm y hy).1)
        have hwT : Whole w' g 27 #[.int .u64 (val (l.take 8) : Nat)] := hT.whole hw (fun hm => by have := hTm _ hm; omega)
        by_cases hm0 : l.drop 8 = []
        · rw [if_pos hm0] at hc
          subst hc
          have e8 : l.length = 8 := by have := congrArg List.length hm0; simp at this; omega
          have en : numB l = val (l.take 8) := by unfold numB; rw [if_pos e8, List.take_of_length_le (by omega)]
          exact ⟨0, rfl, Lib.hid hfw, (fun _ => by rw [en]; exact hwT), (fun h => absurd rfl h)⟩
        · rw [if_neg hm0] at hc
          subst hc
          have e8 : l.length ≠ 8 := fun h => hm0 (List.drop_eq_nil_of_le (by omega))
          exact ⟨5, rfl, Lib.hid hfw, (fun h => by cases h), fun _ => by unfold numB; rw [if_neg e8]⟩)
  obtain ⟨N, hN⟩ : ∃ N, N = numB l := ⟨_, rfl⟩
  rw [← hN] at RD ⊢
  have HW0 := Lib.hid hw0
  have HG := Lib.hid hg
  clear BY HL0 hl hn hnil hfit hw0 hg hN
  go_enter Tryz.func41, Tryz.ntmps41
  go_wp2_with fail
  rw [← HW0.out, ← HG.out]
  (with_reducible refine RD.out.mono ?_)
  rintro e w3 ⟨code, rfl, HFR, h0, h1⟩
  have FIN : Hid (Frm [] w w3) := Lib.hid (F0.out.trans HFR.out (by simp) (fun y hy => .inr (by simp at hy; have := GS.out; omega)))
  by_cases hc0 : code = 0
  · subst hc0
    have x0 := (h0 rfl).cell 0
    simp only [List.getElem?_toArray, List.getElem?_cons_zero] at x0
    clear h0 h1
    go_wp2
    go_ret
    exact ⟨rfl, FIN.out⟩
  · have b1 : ((code : Int) != 0) = true := by simp; omega
    have e1 := h1 hc0
    subst e1
    clear h0 h1 hc0
    go_wp2
    go_ret
    exact ⟨rfl, FIN.out⟩
end Go.Proofs.YtcbpppdmkhpkkaaGreat
/- A keeper's nodes as a function of the key: what put, delete, drop and a tick make of it. Of no program. -/
namespace Go.Proofs.YtcbpppdmkhpkkaaGreat
open Go.RowKit

/-- The node of a key. -/
def lookK (L : List Nd) (s : ByteArray) : Option Nd := if isN L s = true then some (getN L s) else none
theorem look_mem {L : List Nd} (hs : Srt L) {s : ByteArray} {d : Nd} : lookK L s = some d ↔ d ∈ L ∧ d.k = s := by
  unfold lookK
  constructor
  · intro h
    split at h
    · rename_i hi
      injection h with h
      have := isN_split hi
      obtain ⟨d', _, h2, h3, h4⟩ := this
      unfold getN at h
      rw [if_pos hi, h3] at h
      subst h
      exact ⟨by rw [← h3]; simp [h4], h2⟩
    · cases h
  · rintro ⟨h1, rfl⟩
    obtain ⟨h2, h3⟩ := isN_node hs h1
    rw [if_pos h2]
    unfold getN
    rw [if_pos h2, h3]
theorem look_is {L : List Nd} {s : ByteArray} : (lookK L s).isSome = isN L s := by
  unfold lookK
  cases isN L s <;> simp
theorem look_get {L : List Nd} {s : ByteArray} : (lookK L s).getD default = getN L s := by
  unfold lookK
  cases h : isN L s
  · unfold getN; rw [h]; rfl
  · simp
theorem look_ext {L M : List Nd} (hl : Srt L) (hm : Srt M) {s : ByteArray} (h : ∀ d, d.k = s → (d ∈ M ↔ d ∈ L)) : lookK M s = lookK L s := by
  cases e : lookK L s with
  | some d =>
    obtain ⟨h1, h2⟩ := (look_mem hl).1 e
    exact (look_mem hm).2 ⟨(h d h2).2 h1, h2⟩
  | none =>
    cases e2 : lookK M s with
    | none => rfl
    | some d =>
      obtain ⟨h1, h2⟩ := (look_mem hm).1 e2
      have := (look_mem hl).2 ⟨(h d h2).1 h1, h2⟩
      rw [e] at this; cases this
/-- What a put lays. -/
def putD (L : List Nd) (s : ByteArray) (v : List Nat) (want own : Nat) : Nd := if isN L s = true then ⟨s, v, (want + 1) % 18446744073709551616, (getN L s).own⟩ else ⟨s, v, 1, own⟩
theorem look_del {L : List Nd} (h : Good L) {s : ByteArray} {want : Nat} (hc : delN L s want = 0) (s' : ByteArray) : lookK (delL L s want) s' = if s' = s then none else lookK L s' := by
  obtain ⟨hi, _⟩ := delN_ok hc
  obtain ⟨d0, h1, h2, _, _⟩ := isN_split hi
  have hM := (h.del s want).srt
  have hp : delL L s want = L.take (ixN L s) ++ L.drop (ixN L s + 1) := by unfold delL; rw [if_pos hc]
  by_cases e : s' = s
  · rw [if_pos e, e]
    cases e2 : lookK (delL L s want) s with
    | none => rfl
    | some d =>
      exfalso
      obtain ⟨h3, h4⟩ := (look_mem hM).1 e2
      rw [hp] at h3
      have hs := h.srt
      unfold Srt at hs
      rw [h1, List.pairwise_append, List.pairwise_cons] at hs
      rcases List.mem_append.1 h3 with h5 | h5
      · have := kl_ne (hs.2.2 d h5 d0 (by simp))
        exact this (by rw [h4, h2])
      · have := kl_ne (hs.2.1.1 d h5)
        exact this (by rw [h4, h2])
  · rw [if_neg e]
    refine look_ext h.srt hM (fun d hd => ?_)
    have hne : d ≠ d0 := fun e3 => e (by rw [← hd, e3, h2])
    rw [hp]
    conv => rhs; rw [h1]
    simp only [List.mem_append, List.mem_cons, hne, false_or]
theorem look_keep {L : List Nd} (h : Good L) (g : Nat) (s : ByteArray) : lookK (keepD g L) s = (lookK L s).filter (fun d => decide (g = 0) || decide (d.own ≠ g)) := by
  have hM := (h.drop g).srt
  cases e : lookK L s with
  | none =>
    cases e2 : lookK (keepD g L) s with
    | none => rfl
    | some d =>
      obtain ⟨h1, h2⟩ := (look_mem hM).1 e2
      have := (look_mem h.srt).2 ⟨(List.mem_filter.1 h1).1, h2⟩
      rw [e] at this; cases this
  | some d =>
    obtain ⟨h1, h2⟩ := (look_mem h.srt).1 e
    by_cases hp : (decide (g = 0) || decide (d.own ≠ g)) = true
    · simp only [Option.filter]
      rw [if_pos hp]
      exact (look_mem hM).2 ⟨List.mem_filter.2 ⟨h1, hp⟩, h2⟩
    · simp only [Option.filter]
      rw [if_neg hp]
      cases e2 : lookK (keepD g L) s with
      | none => rfl
      | some d' =>
        exfalso
        obtain ⟨h3, h4⟩ := (look_mem hM).1 e2
        obtain ⟨h5, h6⟩ := List.mem_filter.1 h3
        have := (look_mem h.srt).2 ⟨h5, h4⟩
        rw [e] at this
        injection this with this
        subst this
        exact hp h6
theorem Good.dropAll : ∀ (G : List Nat) {L : List Nd}, Good L → Good (dropAll G L)
  | [], _, h => h
  | g :: G, _, h => Good.dropAll G (h.drop g)
theorem look_dropAll : ∀ (G : List Nat) {L : List Nd} (_ : Good L) (s : ByteArray), lookK (dropAll G L) s = (lookK L s).filter (fun d => decide (d.own = 0 ∨ d.own ∉ G))
  | [], L, _, s => by
    show lookK L s = _
    cases lookK L s <;> simp [Option.filter]
  | g :: G, L, h, s => by
    show lookK (dropAll G (keepD g L)) s = _
    rw [look_dropAll G (h.drop g) s, look_keep h g s, Option.filter_filter]
    congr 1
    funext d
    by_cases h0 : d.own = 0 <;> by_cases hg : g = 0 <;> by_cases he : d.own = g <;> by_cases hm : d.own ∈ G <;> simp_all
end Go.Proofs.YtcbpppdmkhpkkaaGreat
/- Acquire and Release of a bundle that nobody, somebody has: what they answer and make of the keys. Of no program. -/
namespace Go.Proofs.YtcbpppdmkhpkkaaGreat
open Go.RowKit

theorem own_ne_ep (b c : ByteArray) : ownK b ≠ epK c := by
  intro h
  have h1 := congrArg (fun x : ByteArray => x.data.toList.head?) h
  simp [ownK, epK] at h1
/-- The number that stands with a bundle. -/
def epB (S : MS) (b : ByteArray) : Nat := numB (getN S.nodes (epK b)).v
theorem rel_good {S : MS} {ses : Nat} {b : ByteArray} (hM : MOk S) (ho : isN S.nodes (ownK b) = true) (hs : (getN S.nodes (ownK b)).own = ses) :
    relE S ses b = 0 ∧ (relS S ses b).ses = S.ses ∧ (relS S ses b).now = S.now ∧ (relS S ses b).last = S.last ∧ (relS S ses b).nodes.length ≤ S.nodes.length ∧ ∀ s, lookK (relS S ses b).nodes s = if s = ownK b then none else lookK S.nodes s := by
  have e : getN S.nodes (ownK b) = S.nodes.getD (ixN S.nodes (ownK b)) default := by unfold getN; rw [if_pos ho]
  have c : delN S.nodes (ownK b) (getN S.nodes (ownK b)).ver = 0 := by
    unfold delN
    rw [if_pos ho, if_neg (by rw [e]; simp)]
  have e1 : relE S ses b = 0 := by
    unfold relE
    rw [ho, if_neg (by simp), if_neg (by simp [hs])]
    unfold doE relC
    simp only [if_pos]
    exact c
  have s1 : relS S ses b = { S with nodes := delL S.nodes (ownK b) (getN S.nodes (ownK b)).ver } := by
    unfold relS
    rw [ho, if_neg (by simp), if_neg (by simp [hs])]
    unfold doS relC
    simp
  refine ⟨e1, by rw [s1], by rw [s1], by rw [s1], ?_, fun s => ?_⟩
  · rw [s1]; exact (delL_sub _ _ _).length_le
  · rw [s1]; exact look_del hM.good c s
end Go.Proofs.YtcbpppdmkhpkkaaGreat
/- A keeper of a disk of its own through the calls: what each answers and leaves. -/
namespace Go.Proofs.YtcbpppdmkhpkkaaGreat
open Go.RowKit
set_option maxRecDepth 100000
/-- Since w0 a keeper of a disk of its own. -/
def Kv (w0 w : World) (k : Nat) (S : MS) (l : List Nat) (room : Nat) : Prop := ∃ jq dp Fd, Kp w w0.heap.size [] k jq dp Fd S l room ∧ Frm [] w0 w ∧ MOk S
theorem Kv.here {w0 w w' : World} {k : Nat} {S : MS} {l : List Nat} {room : Nat} (h : Kv w0 w k S l room) (hf : Frm [] w w') : Kv w0 w' k S l room := by
  obtain ⟨jq, dp, Fd, hk0, hf0, hM⟩ := h
  exact ⟨jq, dp, Fd, hk0.here hf, hf0.trans hf (by simp) (by simp), hM⟩
theorem kopen_low (w0 w : World) (dp room : Nat) (h : Dk w dp dp [dp] [] 0 room) (hf : Frm [] w0 w) (hd : w0.heap.size ≤ dp) :
    Calls Tryz.prog 23 #[.pointer (some ⟨dp, 0, none⟩)] w fun e w' => ∃ k jq Fd, e = .returned (.tuple #[.pointer (some ⟨k, 0, none⟩), .int .i64 0]) ∧ Kp w' w0.heap.size [] k jq dp Fd {} [] room ∧ Frm [] w0 w' := by
  refine (kopen_new [] h (by simp) (by simp)).mono ?_
  rintro e w' ⟨k, jq, Fd, rfl, hk, hf1, hx, _⟩
  refine ⟨k, jq, Fd, rfl, ⟨?_, hk.jn, ?_, fun x hx => ⟨by simp, by have := (hk.out x hx).2; omega⟩⟩, hf.trans hf1 (by simp) (fun x hx => by simp at hx; subst hx; exact .inr hd)⟩
  · obtain ⟨tp, bp, h1, h2⟩ := hk.keeper
    exact ⟨tp, bp, h1, h2.low hd⟩
  · have h1 := hk.dk
    obtain ⟨⟨a1, a2, a3⟩, h2⟩ := h1
    refine ⟨⟨a1, by omega, a3⟩, ?_⟩
    rcases h2 with h2 | ⟨r, a, cap, hon, hF⟩
    · exact .inl h2
    · refine .inr ⟨r, a, cap, ⟨hon.disk, hon.row, ?_, by have := hon.hr; omega⟩, hF⟩
      rcases hon.head with ⟨q1, q2, q3⟩ | ⟨g, cur, p0, p1, p3⟩
      · exact .inl ⟨q1, q2, q3⟩
      · exact .inr ⟨g, cur, p0, by omega, p3⟩
theorem kv_open (w0 w : World) (dp room : Nat) (h : Dk w dp dp [dp] [] 0 room) (hf : Frm [] w0 w) (hd : w0.heap.size ≤ dp) :
    Calls Tryz.prog 23 #[.pointer (some ⟨dp, 0, none⟩)] w fun e w' => ∃ k, e = .returned (.tuple #[.pointer (some ⟨k, 0, none⟩), .int .i64 0]) ∧ Kv w0 w' k {} [] room := by
  refine (kopen_low w0 w dp room h hf hd).mono ?_
  rintro e w' ⟨k, jq, Fd, rfl, hk, hf1⟩
  exact ⟨k, rfl, jq, dp, Fd, hk, hf1, MOk.first⟩
end Go.Proofs.YtcbpppdmkhpkkaaGreat
/- All nodes of a keeper. -/
namespace Go.Proofs.YtcbpppdmkhpkkaaGreat
open Go.RowKit
set_option maxRecDepth 100000
theorem pfx_all (L : List Nd) : L.filter (fun d => pfx ⟨#[]⟩ d.k) = L := by
  rw [List.filter_eq_self]
  intro d _
  rfl
end Go.Proofs.YtcbpppdmkhpkkaaGreat
/- Two keepers on disks of their own; a disk's records and the state behind them. -/
namespace Go.Proofs.YtcbpppdmkhpkkaaGreat
open Go.RowKit
set_option maxRecDepth 100000
theorem Kp.low {w : World} {B B' k jq dp : Nat} {G Fd : List Nat} {S : MS} {l : List Nat} {room : Nat} (h : Kp w B G k jq dp Fd S l room) (hB : B' ≤ B) : Kp w B' G k jq dp Fd S l room := by
  refine ⟨?_, h.jn, ?_, fun x hx => ⟨(h.out x hx).1, Nat.le_trans hB (h.out x hx).2⟩⟩
  · obtain ⟨tp, bp, h1, h2⟩ := h.keeper
    exact ⟨tp, bp, h1, h2.low hB⟩
  · have h1 := h.dk
    obtain ⟨⟨a1, a2, a3⟩, h2⟩ := h1
    refine ⟨⟨a1, by omega, a3⟩, ?_⟩
    rcases h2 with h2 | ⟨r, a, cap, hon, hF⟩
    · exact .inl h2
    · refine .inr ⟨r, a, cap, ⟨hon.disk, hon.row, ?_, by have := hon.hr; omega⟩, hF⟩
      rcases hon.head with ⟨q1, q2, q3⟩ | ⟨g, cur, p0, p1, p3⟩
      · exact .inl ⟨q1, q2, q3⟩
      · exact .inr ⟨g, cur, p0, by omega, p3⟩
/-- Records on a disk, and the state behind them. -/
def Rc (S : MS) (l : List Nat) : Prop := ∃ R, l = allF R ∧ Fit R ∧ repAll {} R = some S
theorem Rc.first : Rc {} [] := ⟨[], rfl, fun b hb => by simp at hb, rfl⟩
theorem Rc.recs {S : MS} {l : List Nat} (h : Rc S l) : repAll {} (recs l) = some S ∧ l.take (recN l) = l := by
  obtain ⟨R, rfl, hf, hr⟩ := h
  have h1 := recs_all' R hf
  exact ⟨by rw [h1.1]; exact hr, by rw [h1.2]; exact List.take_length⟩
theorem kE_zero {S : MS} {l : List Nat} {room : Nat} {c : MC} (h : kE S l room c = 0) : doE S c = 0 ∧ (recB S c).length ≤ 4096 := by
  unfold kE at h
  by_cases h0 : doE S c = 0
  · refine ⟨h0, ?_⟩
    rw [if_neg (by simp [h0])] at h
    unfold jc at h
    by_cases h1 : 4096 < (recB S c).length
    · rw [if_pos h1] at h; omega
    · omega
  · rw [if_pos h0] at h; exact absurd h h0
theorem Rc.step {m : Nat} {S : MS} {l : List Nat} {room : Nat} {c : MC} (h : Rc S l) (hM : MOk S) (hV : MVer m S) (hc : MCOk c) (h8 : ∀ x ∈ kL S l room c, x < 256) : Rc (kS S l room c) (kL S l room c) := by
  by_cases h0 : kE S l room c = 0
  · have hk : kL S l room c = l ++ fr (recB S c) := by unfold kL; rw [if_pos h0]
    have hs : kS S l room c = doS S c := by unfold kS; rw [if_pos h0]
    obtain ⟨hd, hl⟩ := kE_zero h0
    obtain ⟨R, hR, hf, hr⟩ := h
    rw [hk] at h8 ⊢
    rw [hs]
    refine ⟨R ++ [recB S c], by rw [allF_append, allF_one, hR], hf.append (Fit.one hl fun x hx => h8 x (List.mem_append_right _ (by unfold fr; exact List.mem_append_right _ hx))), ?_⟩
    rw [repAll_snoc, hr]
    exact rep1_rec hM hV hc hd
  · have hk : kL S l room c = l := by unfold kL; rw [if_neg h0]
    have hs : kS S l room c = S := by unfold kS; rw [if_neg h0]
    rw [hk, hs]
    exact h
theorem kL_len {S : MS} {l : List Nat} {room : Nat} {c : MC} : (kL S l room c).length ≤ l.length + 4104 := by
  by_cases h0 : kE S l room c = 0
  · have hk : kL S l room c = l ++ fr (recB S c) := by unfold kL; rw [if_pos h0]
    have := (kE_zero h0).2
    rw [hk, List.length_append, fr_length]; omega
  · have hk : kL S l room c = l := by unfold kL; rw [if_neg h0]
    rw [hk]; omega
/-- The keeper k on the disk dp, the keeper p on one of its own. -/
def Pr (w0 w : World) (k p dp room : Nat) (S : MS) (l : List Nat) (T : MS) (m : List Nat) : Prop :=
  ∃ jq Fd jp op Fp, Kp w w0.heap.size (p :: Fp) k jq dp Fd S l room ∧ Kp w w0.heap.size (k :: Fd) p jp op Fp T m room ∧ Frm [] w0 w
section
variable {w0 w : World} {k p dp room : Nat} {S T : MS} {l m : List Nat}
theorem Pr.here {w' : World} (h : Pr w0 w k p dp room S l T m) (hf : Frm [] w w') : Pr w0 w' k p dp room S l T m := by
  obtain ⟨jq, Fd, jp, op, Fp, h1, h2, h3⟩ := h
  exact ⟨jq, Fd, jp, op, Fp, h1.here hf, h2.here hf, h3.trans hf (by simp) (by simp)⟩
theorem Pr.frm (h : Pr w0 w k p dp room S l T m) : Frm [] w0 w := by obtain ⟨_, _, _, _, _, _, _, h3⟩ := h; exact h3
theorem Pr.b8 (h : Pr w0 w k p dp room S l T m) : ∀ x ∈ l, x < 256 := by obtain ⟨_, _, _, _, _, h1, _⟩ := h; exact h1.dk.1.1
theorem kp_pos {w : World} {B k jq dp : Nat} {G Fd : List Nat} {S : MS} {l : List Nat} {room : Nat} (h : Kp w B G k jq dp Fd S l room) : ∀ x ∈ k :: Fd, x ∉ G ∧ B ≤ x ∧ x < w.heap.size := fun x hx => by
  have hm : x ∈ k :: jq :: Fd := by simp only [List.mem_cons] at hx ⊢; rcases hx with h | h; exact .inl h; exact .inr (.inr h)
  exact ⟨(h.out x hm).1, (h.out x hm).2, h.klt x hm⟩
/-- The first one's disk, the second keeper. -/
def Pd (w0 w : World) (p dp room : Nat) (l : List Nat) (T : MS) (m : List Nat) : Prop :=
  ∃ Fd jp op Fp, Dk w w0.heap.size dp Fd l l.length room ∧ Kp w w0.heap.size Fd p jp op Fp T m room ∧ (∀ x ∈ Fd, w0.heap.size ≤ x) ∧ Frm [] w0 w
end
end Go.Proofs.YtcbpppdmkhpkkaaGreat
/- A keeper behind calls (KpTo); contracts of the program's put and count. -/
namespace Go.Proofs.YtcbpppdmkhpkkaaGreat
open Go.RowKit
set_option maxRecDepth 100000

/-- What a call leaves of the keeper at k: the state S', at most n bytes more on its disk. -/
def KpTo (w : World) (B : Nat) (G : List Nat) (k jq dp : Nat) (Fd : List Nat) (S : MS) (l : List Nat) (room : Nat) (S' : MS) (n : Nat) (w' : World) : Prop :=
  ∃ Fd' l', Kp w' B G k jq dp Fd' S' l' room ∧ Frm (k :: Fd) w w' ∧ (∀ x ∈ Fd', x ∈ Fd ∨ w.heap.size ≤ x) ∧ l'.length ≤ l.length + n ∧ (Rc S l → Rc S' l')
section
variable {w w' w'' : World} {B k jq dp : Nat} {G Fd Fd' : List Nat} {S S' S'' : MS} {l l' : List Nat} {room n m : Nat}
theorem KpTo.here (h : Kp w B G k jq dp Fd S l room) (hf : Frm [] w w') : KpTo w B G k jq dp Fd S l room S 0 w' :=
  ⟨Fd, l, h.here hf, hf.weak (by simp), fun x hx => .inl hx, by omega, fun h => h⟩
theorem KpTo.next (hf : Frm (k :: Fd) w w') (hx : ∀ x ∈ Fd', x ∈ Fd ∨ w.heap.size ≤ x) (hl : l'.length ≤ l.length + n) (hr : Rc S l → Rc S' l') (h : KpTo w' B G k jq dp Fd' S' l' room S'' m w'') : KpTo w B G k jq dp Fd S l room S'' (n + m) w'' := by
  obtain ⟨F2, l2, h1, h2, h3, h4, h5⟩ := h
  refine ⟨F2, l2, h1, hf.trans h2 (fun x hx => hx) (fun x hm => ?_), fun x hm => ?_, by omega, fun h => h5 (hr h)⟩
  · rcases List.mem_cons.1 hm with rfl | hm
    · exact .inl (by simp)
    · exact (hx x hm).imp (fun h => by simp [h]) id
  · rcases h3 x hm with h | h
    · exact hx x h
    · have := hf.size; exact .inr (by omega)
theorem KpTo.early (hf : Frm [] w w') (h : KpTo w' B G k jq dp Fd S l room S' n w'') : KpTo w B G k jq dp Fd S l room S' n w'' := by
  have := KpTo.next (n := 0) (hf.weak (U := k :: Fd) (by simp)) (fun x hx => .inl hx) (by omega) (fun h => h) h
  rwa [Nat.zero_add] at this
theorem KpTo.mono (h : KpTo w B G k jq dp Fd S l room S' n w') (hn : n ≤ m) : KpTo w B G k jq dp Fd S l room S' m w' := by
  obtain ⟨F2, l2, h1, h2, h3, h4, h5⟩ := h
  exact ⟨F2, l2, h1, h2, h3, by omega, h5⟩
end
theorem kdo_to {w : World} {B k jq dp : Nat} {G Fd : List Nat} {S : MS} {l : List Nat} {room m : Nat} (c : MC) (a : Option Addr) (cap : Nat) (h : Kp w B G k jq dp Fd S l room) (hM : MOk S) (hV : MVer m S) (hc : MCOk c) (hG : ∀ x ∈ G, x < w.heap.size) (hb : Bytes w a c.val) (hnil : a = none → cap = 0)
    (hk : c.kind ≠ 7) (hl : c.key.size + c.val.length ≤ 4000) (hr : l.length + 5000 ≤ room) :
    Calls Tryz.prog 13 #[.pointer (some ⟨k, 0, none⟩), cmdV c a cap] w fun e w' => ∃ (n : Nat) (ga : Option Addr) (gn gc : Nat), e = .returned (.tuple #[.int .u64 (n : Nat), .slice ga gn gc, .int .i64 (doE S c : Nat)]) ∧ (doE S c = 0 → n = doN S c) ∧ KpTo w B G k jq dp Fd S l room (doS S c) 4104 w' := by
  have hlen := recB_len S c hk
  have hE : kE S l room c = doE S c := by
    unfold kE
    by_cases h0 : doE S c = 0
    · rw [if_neg (by omega), jc_small (by omega) (by omega), h0]
    · rw [if_pos h0]
  have hS : kS S l room c = doS S c := by
    unfold kS
    rw [hE]
    by_cases h0 : doE S c = 0
    · rw [if_pos h0]
    · rw [if_neg h0, doS_err h0]
  refine (kdo_any c a cap h hM (fun d hd => by have := (hV d hd).1; omega) hc hG hb hnil).mono ?_
  rintro e w' ⟨ga, gc, Fd', rfl, _, _, hk1, hf1, hx1⟩
  refine ⟨kN S l room c, ga, _, gc, by rw [hE], (fun h0 => by unfold kN; rw [hE, if_pos h0]), Fd', _, by rw [← hS]; exact hk1, hf1, hx1, kL_len, fun hR => ?_⟩
  rw [← hS]
  exact hR.step hM hV hc hk1.dk.1.1
theorem getN_fit {S : MS} (h : MOk S) (s : ByteArray) : (getN S.nodes s).v.length ≤ 140737488355328 := by
  unfold getN
  split
  · rename_i his
    have hi : ixN S.nodes s < S.nodes.length := by unfold isN at his; simp at his; exact his.1
    have hm : S.nodes.getD (ixN S.nodes s) default ∈ S.nodes := by simp [hi]
    have := (h.good.lens _ hm)
    omega
  · show ([] : List Nat).length ≤ _; simp
/-- The command of the program's put. -/
def okC (key : ByteArray) (n want ses : Nat) : MC := { kind := 1, key := key, val := be 8 n, want := want, ses := ses }
set_option maxHeartbeats 4000000 in
theorem owkput_any {w : World} {B k jq dp : Nat} {G Fd : List Nat} {S : MS} {l : List Nat} {room m : Nat} (key : ByteArray) (n want ses : Nat) (h : Kp w B G k jq dp Fd S l room) (hM : MOk S) (hV : MVer m S) (hc : MCOk (okC key n want ses)) (hG : ∀ x ∈ G, x < w.heap.size) (hn : n < 18446744073709551616) (hl : key.size ≤ 3000) (hr : l.length + 5000 ≤ room) :
    Calls Tryz.prog 26 #[.pointer (some ⟨k, 0, none⟩), .string key, .int .u64 (n : Nat), .int .u64 (want : Nat), .int .u64 (ses : Nat)] w fun e w' => e = .returned (.int .i64 (doE S (okC key n want ses) : Nat)) ∧ KpTo w B G k jq dp Fd S l room (doS S (okC key n want ses)) 4104 w' := by
  obtain ⟨w1, hw1⟩ : ∃ w1, w1 = w.alloc (.cells #[.pointer none, .int .i64 0] 120) := ⟨_, rfl⟩
  obtain ⟨q, hq⟩ : ∃ q, q = w.heap.size := ⟨_, rfl⟩
  have F1 : Hid (Frm [] w w1) := Lib.hid (by rw [hw1]; exact (Frm.refl _ _).alloc _)
  have WR : Wr w1 w.heap.size q [q] [] := ⟨by simp, by omega, .inl ⟨rfl, rfl, by rw [hw1, hq]; exact Whole.made _ _ _⟩⟩
  have U := Lib.hid (u64_any n WR hn (by simp))
  have QS : Hid (q = w.heap.size) := Lib.hid hq
  have DO : Hid (∀ z a c, Frm [] w z → Bytes z a (be 8 n) → (a = none → c = 0) → Calls Tryz.prog 13 #[.pointer (some ⟨k, 0, none⟩), .agg #[.int .u8 1, .string key, .slice a 8 c, .int .u64 (want : Nat), .int .u64 (ses : Nat), .int .u64 0]] z fun e w' => ∃ (n' : Nat) (ga : Option Addr) (gn gc : Nat), e = .returned (.tuple #[.int .u64 (n' : Nat), .slice ga gn gc, .int .i64 (doE S (okC key n want ses) : Nat)]) ∧ KpTo w B G k jq dp Fd S l room (doS S (okC key n want ses)) 4104 w') := Lib.hid (fun z a c hz hb hnil => by
    have hd := kdo_to (okC key n want ses) a c (h.here hz) hM hV hc (fun x hx => Nat.lt_of_lt_of_le (hG x hx) hz.size) hb hnil (by show (1 : Nat) ≠ 7; decide) (by show key.size + (be 8 n).length ≤ 4000; rw [be_length]; omega) hr
    rw [show cmdV (okC key n want ses) a c = .agg #[.int .u8 1, .string key, .slice a 8 c, .int .u64 (want : Nat), .int .u64 (ses : Nat), .int .u64 0] from by
      show Value.agg #[_, _, .slice a (be 8 n).length c, _, _, _] = _
      rw [be_length]; rfl] at hd
    refine hd.mono ?_
    rintro e w' ⟨n', ga, gn, gc, he, _, hk⟩
    exact ⟨n', ga, gn, gc, he, hk.early hz⟩)
  obtain ⟨E, hE⟩ : ∃ E, E = doE S (okC key n want ses) := ⟨_, rfl⟩
  obtain ⟨S', hS'⟩ : ∃ S', S' = doS S (okC key n want ses) := ⟨_, rfl⟩
  rw [← hE, ← hS'] at DO ⊢
  have HW1 := Lib.hid hw1
  have HQ := Lib.hid hq
  clear h hM hV hc hG hr WR hw1 hq hE hS'
  unfold PutEnd at U
  go_enter Tryz.func26, Tryz.ntmps26
  go_wp2_with fail
  rw [← HW1.out, ← HQ.out]
  (with_reducible refine U.out.mono ?_)
  rintro e w2 ⟨rfl, F', hwr, hf2, hx2⟩
  have F2 : Hid (Frm [] w w2) := Lib.hid (F1.out.trans hf2 (by simp) (fun x hx => .inr (by simp at hx; have := QS.out; omega)))
  have DN := Lib.hid (done_any hwr (by rw [List.nil_append, be_length]; decide))
  rw [List.nil_append] at DN
  clear hwr hf2 hx2
  unfold Own at DN
  rw [be_length] at DN
  go_wp2_with fail
  (with_reducible refine DN.out.mono ?_)
  rintro e w3 ⟨a', c', rfl, ho, hf3⟩
  have F3 : Frm [] w w3 := F2.out.trans hf3 (by simp) (by simp)
  have hb3 : Bytes w3 a' (be 8 n) ∧ (a' = none → c' = 0) := own_bytes (by rw [be_length]; exact ho) (be_lt 8 n)
  have D3 := Lib.hid (DO.out w3 a' c' F3 hb3.1 hb3.2)
  clear ho hf3 F3 hb3
  go_wp2_with fail
  (with_reducible refine D3.out.mono ?_)
  rintro e w4 ⟨n', ga, gn, gc, rfl, hk⟩
  have K4 := Lib.hid hk
  clear hk
  go_wp2
  go_ret
  exact ⟨rfl, K4.out⟩
end Go.Proofs.YtcbpppdmkhpkkaaGreat
/- Contract of the program's count, in the document's words. -/
namespace Go.Proofs.YtcbpppdmkhpkkaaGreat
open Go.RowKit
set_option maxRecDepth 100000

set_option maxHeartbeats 4000000 in
theorem owcount_any {w : World} {B k jq dp : Nat} {G Fd : List Nat} {S : MS} {l : List Nat} {room m : Nat} (b : ByteArray) (h : Kp w B G k jq dp Fd S l room) (hM : MOk S) (hV : MVer m S) (hG : ∀ x ∈ G, x < w.heap.size) (hb : b.size ≤ 2900) (hr : l.length + 5000 ≤ room) :
    Calls Tryz.prog 27 #[.pointer (some ⟨k, 0, none⟩), .string b] w fun e w' => ∃ r : Nat, e = .returned (.tuple #[.int .u64 (r : Nat), .int .i64 (doE S (acqC2 S b) : Nat)]) ∧ r = (if doE S (acqC2 S b) = 0 then acqN S b else 0) ∧ KpTo w B G k jq dp Fd S l room (doS S (acqC2 S b)) 4104 w' := by
  have G2 : Hid _ := Lib.hid (kget_any (epK b) h hM.good)
  have AN : Hid (acqN S b = (numB (getN S.nodes (epK b)).v + 1) % 18446744073709551616) := Lib.hid rfl
  have anl : acqN S b < 18446744073709551616 := by rw [AN.out]; exact Nat.mod_lt _ (by decide)
  have PT : Hid (∀ z, Frm [] w z → Calls Tryz.prog 26 #[.pointer (some ⟨k, 0, none⟩), .string (epK b), .int .u64 (acqN S b : Nat), .int .u64 ((getN S.nodes (epK b)).ver : Nat), .int .u64 ((0 : Nat) : Int)] z fun e w' => e = .returned (.int .i64 (doE S (acqC2 S b) : Nat)) ∧ KpTo w B G k jq dp Fd S l room (doS S (acqC2 S b)) 4104 w') := Lib.hid (fun z hz =>
    (owkput_any (epK b) (acqN S b) (getN S.nodes (epK b)).ver 0 (h.here hz) hM hV (acqC2_ok hM (by omega)) (fun x hx => Nat.lt_of_lt_of_le (hG x hx) hz.size) anl (by rw [epK_size]; omega) hr).mono (fun e w' ⟨he, hk⟩ => ⟨he, hk.early hz⟩))
  have hfit := getN_fit hM (epK b)
  obtain ⟨E, hE⟩ : ∃ E, E = doE S (acqC2 S b) := ⟨_, rfl⟩
  obtain ⟨S', hS'⟩ : ∃ S', S' = doS S (acqC2 S b) := ⟨_, rfl⟩
  obtain ⟨N, hN⟩ : ∃ N, N = acqN S b := ⟨_, rfl⟩
  rw [← hE, ← hS', ← hN] at PT
  rw [← hN] at AN anl
  rw [← hE, ← hS', ← hN]
  obtain ⟨d, hd⟩ : ∃ d, d = getN S.nodes (epK b) := ⟨_, rfl⟩
  rw [← hd] at G2 AN PT hfit
  obtain ⟨bx, hbx⟩ : ∃ bx, bx = isN S.nodes (epK b) := ⟨_, rfl⟩
  rw [← hbx] at G2
  unfold epK at G2 PT
  have nl6 : ¬ 9223372036854775807 < 6 + b.size := by omega
  obtain ⟨yk, yv, yver, yown⟩ := d
  clear h hM hV hG hr hE hS' hN hd hbx
  unfold GetPEnd at G2
  simp only at G2 AN PT hfit
  go_enter Tryz.func27, Tryz.ntmps27
  go_wp2_with fail
  (with_reducible refine G2.out.mono ?_)
  rintro e w6 ⟨ya, yc, rfl, hb6, hn6, _, hf6⟩
  obtain ⟨y, hy⟩ : ∃ y, y = w6.heap.size := ⟨_, rfl⟩
  obtain ⟨w7, hw7⟩ : ∃ w7, w7 = w6.alloc (.cells #[.string yk, .slice ya yv.length yc, .int .u64 (yver : Nat), .int .u64 (yown : Nat)] 58) := ⟨_, rfl⟩
  have f67 : Frm [] w6 w7 := by rw [hw7]; exact (Frm.refl _ _).alloc _
  have F7 : Hid (Frm [] w w7) := Lib.hid (hf6.trans f67 (by simp) (by simp))
  have B7 : Hid (Whole w7 y 58 #[.string yk, .slice ya yv.length yc, .int .u64 (yver : Nat), .int .u64 (yown : Nat)]) := Lib.hid (by rw [hw7, hy]; exact Whole.made _ _ _)
  have NUM := Lib.hid (ownum_any ya yv.length yc yv w7 (f67.bytes hb6 (by simp)) rfl hn6 hfit)
  have HY := Lib.hid hy
  have HW7 := Lib.hid hw7
  obtain ⟨M, hM⟩ : ∃ M, M = numB yv := ⟨_, rfl⟩
  rw [← hM] at NUM AN
  have mlt : M < 18446744073709551616 := by rw [hM]; exact numB_lt hb6.1
  have n1 : IntKind.u64.wrap ((M : Int) + 1) = (N : Int) := by rw [AN.out, IntKind.wrap_u64]; omega
  clear hf6 f67 hy hw7 hM hb6 hn6 hfit
  go_wp2_with fail
  rw [← HY.out, ← HW7.out]
  (with_reducible refine NUM.out.mono ?_)
  rintro e w8 ⟨rfl, hf8⟩
  have F8 : Hid (Frm [] w w8) := Lib.hid (F7.out.trans hf8 (by simp) (by simp))
  have b8 := hf8.whole B7.out (by simp)
  have r2 := b8.cell 2
  simp only [List.getElem?_toArray, List.getElem?_cons_zero, List.getElem?_cons_succ] at r2
  have P8 := Lib.hid (PT.out w8 F8.out)
  rw [show ((0 : Nat) : Int) = 0 from rfl] at P8
  clear hf8 b8
  go_wp2_with fail
  (with_reducible refine P8.out.mono ?_)
  rintro e w9 ⟨rfl, hk⟩
  have K9 := Lib.hid hk
  clear hk r2
  by_cases hE : E = 0
  · subst hE
    go_wp2
    go_ret2
    exact ⟨N, rfl, by simp, K9.out⟩
  · have b1 : ((E : Int) != 0) = true := by simp; omega
    have HE := Lib.hid hE
    clear hE
    go_wp2
    go_ret2
    exact ⟨0, rfl, by first | rfl | (rw [if_neg HE.out]), K9.out⟩
end Go.Proofs.YtcbpppdmkhpkkaaGreat
/- What Acquire comes to, case by case. Of no program. -/
namespace Go.Proofs.YtcbpppdmkhpkkaaGreat
open Go.RowKit

theorem acq_zero (S : MS) (broker : Nat) (b : ByteArray) : acqE S 0 broker b = 15 ∧ acqR S 0 broker b = 0 ∧ acqS S 0 broker b = S := by
  have h : acqE S 0 broker b = 15 := by unfold acqE; rw [if_pos rfl]
  exact ⟨h, by unfold acqR; rw [h]; rfl, by unfold acqS; rw [if_pos rfl]⟩
theorem acq_is {S : MS} {ses broker : Nat} {b : ByteArray} (h0 : ses ≠ 0) (hi : isN S.nodes (ownK b) = true) : acqE S ses broker b = 50 ∧ acqR S ses broker b = 0 ∧ acqS S ses broker b = S := by
  have h : acqE S ses broker b = 50 := by unfold acqE; rw [if_neg h0, if_pos hi]
  exact ⟨h, by unfold acqR; rw [h]; rfl, by unfold acqS; rw [if_neg h0, if_pos hi]⟩
theorem acq_bad {S : MS} {ses broker : Nat} {b : ByteArray} (h0 : ses ≠ 0) (hi : isN S.nodes (ownK b) = false) (he : doE S (acqC1 ses broker b) ≠ 0) : acqE S ses broker b = doE S (acqC1 ses broker b) ∧ acqR S ses broker b = 0 ∧ acqS S ses broker b = doS S (acqC1 ses broker b) := by
  have h : acqE S ses broker b = doE S (acqC1 ses broker b) := by unfold acqE; rw [if_neg h0, if_neg (by simp [hi]), if_pos he]
  exact ⟨h, by unfold acqR; rw [if_neg (by rw [h]; exact he)], by unfold acqS; rw [if_neg h0, if_neg (by simp [hi]), if_pos he]⟩
theorem acq_ok {S : MS} {ses broker : Nat} {b : ByteArray} (h0 : ses ≠ 0) (hi : isN S.nodes (ownK b) = false) (he : doE S (acqC1 ses broker b) = 0) :
    acqE S ses broker b = doE (doS S (acqC1 ses broker b)) (acqC2 (doS S (acqC1 ses broker b)) b) ∧ acqS S ses broker b = doS (doS S (acqC1 ses broker b)) (acqC2 (doS S (acqC1 ses broker b)) b) ∧
    (acqE S ses broker b = 0 → acqR S ses broker b = acqN (doS S (acqC1 ses broker b)) b) ∧ (acqE S ses broker b ≠ 0 → acqR S ses broker b = 0) := by
  refine ⟨by unfold acqE; rw [if_neg h0, if_neg (by simp [hi]), if_neg (by simp [he])], by unfold acqS; rw [if_neg h0, if_neg (by simp [hi]), if_neg (by simp [he])], fun h => by unfold acqR; rw [if_pos h], fun h => by unfold acqR; rw [if_neg h]⟩
end Go.Proofs.YtcbpppdmkhpkkaaGreat
/- Contract of the program's Acquire, in the document's words. -/
namespace Go.Proofs.YtcbpppdmkhpkkaaGreat
open Go.RowKit
set_option maxRecDepth 100000

def PAcq (w : World) (B : Nat) (G : List Nat) (k jq dp : Nat) (Fd : List Nat) (S : MS) (l : List Nat) (room : Nat) (ses broker : Nat) (b : ByteArray) (e : Ending) (w' : World) : Prop :=
  e = .returned (.tuple #[.int .u64 (acqR S ses broker b : Nat), .int .i64 (acqE S ses broker b : Nat)]) ∧ KpTo w B G k jq dp Fd S l room (acqS S ses broker b) 8208 w'
set_option maxHeartbeats 8000000 in
theorem owpacq_any {w : World} {B k jq dp : Nat} {G Fd : List Nat} {S : MS} {l : List Nat} {room m : Nat} (ses broker : Nat) (b : ByteArray) (h : Kp w B G k jq dp Fd S l room) (hM : MOk S) (hV : MVer m S) (hm : m < 18446744073709551615) (hG : ∀ x ∈ G, x < w.heap.size) (hs : ses < 18446744073709551616) (hbr : broker < 18446744073709551616) (hb : b.size ≤ 2900) (hr : l.length + 10000 ≤ room) :
    Calls Tryz.prog 9 #[.pointer (some ⟨k, 0, none⟩), .int .u64 (ses : Nat), .int .u64 (broker : Nat), .string b] w (PAcq w B G k jq dp Fd S l room ses broker b) := by
  obtain ⟨Q, hQ⟩ : ∃ Q, Q = PAcq w B G k jq dp Fd S l room ses broker b := ⟨_, rfl⟩
  have SAME : Hid (∀ (c : Nat) z, acqE S ses broker b = c ∧ acqR S ses broker b = 0 ∧ acqS S ses broker b = S → Frm [] w z → Q (.returned (.tuple #[.int .u64 0, .int .i64 (c : Nat)])) z) := Lib.hid (fun c z hc hz => by
    rw [hQ]
    refine ⟨by rw [hc.1, hc.2.1]; rfl, by rw [hc.2.2]; exact (KpTo.here h hz).mono (by omega)⟩)
  rw [← hQ]
  by_cases h0 : ses = 0
  · subst h0
    have FIN := Lib.hid (SAME.out 15 w (acq_zero S broker b) (Frm.refl _ _))
    clear h hM hV hG hQ
    go_enter Tryz.func9, Tryz.ntmps9
    go_wp2
    exact FIN.out
  have G1 : Hid _ := Lib.hid (kget_any (ownK b) h hM.good)
  have b0 : ((ses : Int) == 0) = false := by simp; omega
  have nl4 : ¬ 9223372036854775807 < 4 + b.size := by omega
  obtain ⟨d, hd⟩ : ∃ d, d = getN S.nodes (ownK b) := ⟨_, rfl⟩
  rw [← hd] at G1
  obtain ⟨yk, yv, yver, yown⟩ := d
  clear hd
  unfold GetPEnd at G1
  simp only at G1
  by_cases his : isN S.nodes (ownK b) = true
  · rw [his] at G1
    unfold ownK at G1
    have FIN := Lib.hid (fun z hz => SAME.out 50 z (acq_is h0 his) hz)
    clear h hM hV hG hQ his
    go_enter Tryz.func9, Tryz.ntmps9
    go_wp2_with fail
    (with_reducible refine G1.out.mono ?_)
    rintro e w2 ⟨ya, yc, rfl, _, _, _, hf2⟩
    go_wp2
    exact FIN.out _ (by repeat (first | assumption | apply Frm.drew | apply Frm.alloc))
  have his' : isN S.nodes (ownK b) = false := by simpa using his
  rw [his'] at G1
  unfold ownK at G1
  have M1 := hM.does (acqC1_ok (ses := ses) (broker := broker) hs (b := b) (by omega))
  have V1 := hV.does (c := acqC1 ses broker b) hm
  have PT : Hid (∀ z, Frm [] w z → Calls Tryz.prog 26 #[.pointer (some ⟨k, 0, none⟩), .string (⟨#[111, 119, 110, 47]⟩ ++ b), .int .u64 (broker : Nat), .int .u64 0, .int .u64 (ses : Nat)] z fun e w' => e = .returned (.int .i64 (doE S (acqC1 ses broker b) : Nat)) ∧ KpTo w B G k jq dp Fd S l room (doS S (acqC1 ses broker b)) 4104 w') := Lib.hid (fun z hz => by
    have hp := owkput_any (ownK b) broker 0 ses (h.here hz) hM hV (acqC1_ok hs (by omega)) (fun x hx => Nat.lt_of_lt_of_le (hG x hx) hz.size) hbr (by rw [ownK_size]; omega) (by omega)
    exact hp.mono (fun e w' ⟨he, hk⟩ => ⟨he, hk.early hz⟩))
  have BAD : Hid (doE S (acqC1 ses broker b) ≠ 0 → ∀ z, KpTo w B G k jq dp Fd S l room (doS S (acqC1 ses broker b)) 4104 z → Q (.returned (.tuple #[.int .u64 0, .int .i64 (doE S (acqC1 ses broker b) : Nat)])) z) := Lib.hid (fun he z hk => by
    obtain ⟨e1, e2, e3⟩ := acq_bad h0 his' he
    rw [hQ]
    exact ⟨by rw [e1, e2]; rfl, by rw [e3]; exact hk.mono (by omega)⟩)
  have GOOD : Hid (doE S (acqC1 ses broker b) = 0 → ∀ z (r : Nat), KpTo w B G k jq dp Fd S l room (doS (doS S (acqC1 ses broker b)) (acqC2 (doS S (acqC1 ses broker b)) b)) 8208 z → r = (if doE (doS S (acqC1 ses broker b)) (acqC2 (doS S (acqC1 ses broker b)) b) = 0 then acqN (doS S (acqC1 ses broker b)) b else 0) → Q (.returned (.tuple #[.int .u64 (r : Nat), .int .i64 (doE (doS S (acqC1 ses broker b)) (acqC2 (doS S (acqC1 ses broker b)) b) : Nat)])) z) := Lib.hid (fun he z r hk hr => by
    obtain ⟨e1, e2, e3, e4⟩ := acq_ok h0 his' he
    rw [hQ]
    refine ⟨?_, by rw [e2]; exact hk⟩
    rw [e1] at e3 e4
    rw [hr, e1]
    by_cases hc : doE (doS S (acqC1 ses broker b)) (acqC2 (doS S (acqC1 ses broker b)) b) = 0
    · rw [if_pos hc, e3 hc]
    · rw [if_neg hc, e4 hc])
  obtain ⟨E1, hE1⟩ : ∃ E1, E1 = doE S (acqC1 ses broker b) := ⟨_, rfl⟩
  obtain ⟨S1, hS1⟩ : ∃ S1, S1 = doS S (acqC1 ses broker b) := ⟨_, rfl⟩
  rw [← hS1] at M1 V1 PT BAD GOOD
  rw [← hE1] at PT BAD GOOD
  have MV := Lib.hid (And.intro M1 V1)
  have GS := Lib.hid hG
  have HR := Lib.hid hr
  have HB := Lib.hid hb
  clear h hM hV hG hQ his his' hE1 hS1 SAME M1 V1 hr
  go_enter Tryz.func9, Tryz.ntmps9
  go_wp2_with fail
  (with_reducible refine G1.out.mono ?_)
  rintro e w2 ⟨ya, yc, rfl, _, _, _, hf2⟩
  have P2 := Lib.hid (PT.out _ (hf2.alloc (.cells #[.string yk, .slice ya yv.length yc, .int .u64 (yver : Nat), .int .u64 (yown : Nat)] 58)))
  clear hf2
  go_wp2_with fail
  (with_reducible refine P2.out.mono ?_)
  rintro e w5 ⟨rfl, hk⟩
  by_cases he0 : E1 = 0
  · have GO := Lib.hid (GOOD.out he0)
    obtain ⟨Fd', l', k5, f5, x5, l5, r5⟩ := hk
    have CT : Hid (Calls Tryz.prog 27 #[.pointer (some ⟨k, 0, none⟩), .string b] w5 fun e z => ∃ r : Nat, e = .returned (.tuple #[.int .u64 (r : Nat), .int .i64 (doE S1 (acqC2 S1 b) : Nat)]) ∧ Q (.returned (.tuple #[.int .u64 (r : Nat), .int .i64 (doE S1 (acqC2 S1 b) : Nat)])) z) := Lib.hid (by
      refine (owcount_any b k5 MV.out.1 MV.out.2 (fun x hx => Nat.lt_of_lt_of_le (GS.out x hx) f5.size) HB.out (by have := HR.out; omega)).mono ?_
      rintro e z ⟨r, rfl, hr, hk2⟩
      exact ⟨r, rfl, GO.out z r (KpTo.next (n := 4104) (m := 4104) f5 x5 l5 r5 hk2) hr⟩)
    obtain ⟨E2, hE2⟩ : ∃ E2, E2 = doE S1 (acqC2 S1 b) := ⟨_, rfl⟩
    rw [← hE2] at CT
    clear k5 f5 x5 l5 r5 hE2 GO GOOD BAD
    subst he0
    go_wp2_with fail
    (with_reducible refine CT.out.mono ?_)
    rintro e w6 ⟨r, rfl, hq⟩
    have FIN := Lib.hid hq
    clear hq
    go_wp2
    exact FIN.out
  · have b1 : ((E1 : Int) != 0) = true := by simp; omega
    have FIN := Lib.hid (BAD.out he0 w5 hk)
    clear hk he0 GOOD BAD
    go_wp2
    exact FIN.out
end Go.Proofs.YtcbpppdmkhpkkaaGreat
/- Contract of the program's Release, in the document's words. -/
namespace Go.Proofs.YtcbpppdmkhpkkaaGreat
open Go.RowKit
set_option maxRecDepth 100000

def PRel (w : World) (B : Nat) (G : List Nat) (k jq dp : Nat) (Fd : List Nat) (S : MS) (l : List Nat) (room : Nat) (ses : Nat) (b : ByteArray) (e : Ending) (w' : World) : Prop :=
  e = .returned (.int .i64 (relE S ses b : Nat)) ∧ KpTo w B G k jq dp Fd S l room (relS S ses b) 4104 w'
theorem getN_key {S : MS} (h : MOk S) {s : ByteArray} (hi : isN S.nodes s = true) : (getN S.nodes s).k = s := by
  have h1 : lookK S.nodes s = some (getN S.nodes s) := by unfold lookK; rw [if_pos hi]
  exact ((look_mem h.good.srt).1 h1).2
set_option maxHeartbeats 4000000 in
theorem owprel_any {w : World} {B k jq dp : Nat} {G Fd : List Nat} {S : MS} {l : List Nat} {room m : Nat} (ses : Nat) (b : ByteArray) (h : Kp w B G k jq dp Fd S l room) (hM : MOk S) (hV : MVer m S) (hG : ∀ x ∈ G, x < w.heap.size) (hs : ses < 18446744073709551616) (hb : b.size ≤ 2900) (hr : l.length + 10000 ≤ room) :
    Calls Tryz.prog 11 #[.pointer (some ⟨k, 0, none⟩), .int .u64 (ses : Nat), .string b] w (PRel w B G k jq dp Fd S l room ses b) := by
  have G1 : Hid _ := Lib.hid (kget_any (ownK b) h hM.good)
  obtain ⟨Q, hQ⟩ : ∃ Q, Q = PRel w B G k jq dp Fd S l room ses b := ⟨_, rfl⟩
  rw [← hQ]
  have HG2 := getN_ver hM (ownK b)
  have HK := Lib.hid (getN_key hM (s := ownK b))
  obtain ⟨d, hd⟩ : ∃ d, d = getN S.nodes (ownK b) := ⟨_, rfl⟩
  have E0 : Hid (isN S.nodes (ownK b) = false → relE S ses b = 11 ∧ relS S ses b = S) := Lib.hid (fun hi => ⟨by unfold relE; rw [if_pos hi], by unfold relS; rw [if_pos hi]⟩)
  have E1 : Hid (isN S.nodes (ownK b) = true → d.own ≠ ses → relE S ses b = 50 ∧ relS S ses b = S) := Lib.hid (fun hi ho => ⟨by unfold relE; rw [if_neg (by simp [hi]), if_pos (by rw [← hd]; exact ho)], by unfold relS; rw [if_neg (by simp [hi]), if_pos (by rw [← hd]; exact ho)]⟩)
  have e2 : isN S.nodes (ownK b) = true → d.own = ses → relE S ses b = doE S (relC S b) ∧ relS S ses b = doS S (relC S b) := fun hi ho => ⟨by unfold relE; rw [if_neg (by simp [hi]), if_neg (by rw [← hd]; simp [ho])], by unfold relS; rw [if_neg (by simp [hi]), if_neg (by rw [← hd]; simp [ho])]⟩
  have SAME : Hid (∀ (c : Nat) z, relE S ses b = c ∧ relS S ses b = S → Frm [] w z → Q (.returned (.int .i64 (c : Nat))) z) := Lib.hid (fun c z hc hz => by
    rw [hQ]
    exact ⟨by rw [hc.1], by rw [hc.2]; exact (KpTo.here h hz).mono (by omega)⟩)
  have DO : Hid (isN S.nodes (ownK b) = true → d.own = ses → ∀ z, Frm [] w z → Calls Tryz.prog 13 #[.pointer (some ⟨k, 0, none⟩), .agg #[.int .u8 2, .string d.k, .slice none 0 0, .int .u64 (d.ver : Nat), .int .u64 0, .int .u64 0]] z fun e z' => ∃ (n : Nat) (ga : Option Addr) (gn gc : Nat) (E : Nat), e = .returned (.tuple #[.int .u64 (n : Nat), .slice ga gn gc, .int .i64 (E : Nat)]) ∧ Q (.returned (.int .i64 (E : Nat))) z') := Lib.hid (fun hi ho z hz => by
    have hk2 : d.k = ownK b := by rw [hd]; exact HK.out hi
    have hx := kdo_to (relC S b) none 0 (h.here hz) hM hV (relC_ok hM (by omega)) (fun x hx => Nat.lt_of_lt_of_le (hG x hx) hz.size) (Bytes.nil _) (fun _ => rfl) (by show (2 : Nat) ≠ 7; decide) (by show (ownK b).size + 0 ≤ 4000; rw [ownK_size]; omega) (by omega)
    rw [show cmdV (relC S b) none 0 = .agg #[.int .u8 2, .string d.k, .slice none 0 0, .int .u64 (d.ver : Nat), .int .u64 0, .int .u64 0] from by rw [hk2, hd]; rfl] at hx
    refine hx.mono ?_
    rintro e z' ⟨n, ga, gn, gc, he, _, hk⟩
    refine ⟨n, ga, gn, gc, _, he, ?_⟩
    rw [hQ]
    obtain ⟨e3, e4⟩ := e2 hi ho
    exact ⟨by rw [e3], by rw [e4]; exact hk.early hz⟩)
  obtain ⟨is, his⟩ : ∃ is, is = isN S.nodes (ownK b) := ⟨_, rfl⟩
  rw [← his] at G1 E0 E1 DO
  rw [← hd] at G1 HG2
  unfold ownK at G1
  obtain ⟨yk, yv, yver, yown⟩ := d
  unfold GetPEnd at G1
  simp only at G1 HG2 E1 DO
  have nl4 : ¬ 9223372036854775807 < 4 + b.size := by omega
  clear h hM hV hG hQ hd his e2 HK hr
  go_enter Tryz.func11, Tryz.ntmps11
  go_wp2_with fail
  (with_reducible refine G1.out.mono ?_)
  rintro e w2 ⟨ya, yc, rfl, _, _, _, hf2⟩
  have F2 := Lib.hid hf2
  clear hf2
  cases is
  · have FIN := Lib.hid (fun z hz => SAME.out 11 z (E0.out rfl) hz)
    have f3 := F2.out
    clear E0 E1 DO
    go_wp2
    exact FIN.out _ (by repeat (first | assumption | apply Frm.drew | apply Frm.alloc))
  · by_cases ho : yown = ses
    · subst ho
      have b1 : ((yown : Int) != (yown : Int)) = false := by simp
      have f3 := F2.out
      have f4 := f3.alloc (.cells #[.string yk, .slice ya yv.length yc, .int .u64 (yver : Nat), .int .u64 (yown : Nat)] 58)
      have DO2 := Lib.hid (DO.out rfl rfl _ f4)
      clear E0 E1 DO
      go_wp2_with fail
      (with_reducible refine DO2.out.mono ?_)
      rintro e w5 ⟨n, ga, gn, gc, E, rfl, hq⟩
      have HQ := Lib.hid hq
      clear hq
      go_wp2
      exact HQ.out
    · have b1 : ((yown : Int) != (ses : Int)) = true := by simp; omega
      have FIN := Lib.hid (fun z hz => SAME.out 50 z (E1.out rfl ho) hz)
      have f3 := F2.out
      clear E0 E1 DO ho
      go_wp2
      exact FIN.out _ (by repeat (first | assumption | apply Frm.drew | apply Frm.alloc))
end Go.Proofs.YtcbpppdmkhpkkaaGreat
/- Contract of the program's Holder, in the document's words. -/
namespace Go.Proofs.YtcbpppdmkhpkkaaGreat
open Go.RowKit
set_option maxRecDepth 100000

/-- What Holder answers. -/
def hldV (S : MS) (b : ByteArray) : Value := if isN S.nodes (ownK b) = true then .tuple #[.int .u64 (numB (getN S.nodes (ownK b)).v : Nat), .int .u64 (epB S b : Nat), .bool true] else .tuple #[.int .u64 0, .int .u64 0, .bool false]
set_option maxHeartbeats 4000000 in
theorem owphld_any {w : World} {B k jq dp : Nat} {G Fd : List Nat} {S : MS} {l : List Nat} {room : Nat} (b : ByteArray) (h : Kp w B G k jq dp Fd S l room) (hM : MOk S) (hb : b.size ≤ 2900) :
    Calls Tryz.prog 15 #[.pointer (some ⟨k, 0, none⟩), .string b] w fun e w' => e = .returned (hldV S b) ∧ Frm [] w w' := by
  have G1 : Hid _ := Lib.hid (kget_any (ownK b) h hM.good)
  have G2 : Hid (∀ z, Frm [] w z → Calls Tryz.prog 25 #[.pointer (some ⟨k, 0, none⟩), .string (epK b)] z (GetPEnd z (getN S.nodes (epK b)) (isN S.nodes (epK b)))) := Lib.hid (fun z hz => kget_any (epK b) (h.here hz) hM.good)
  have fit1 := getN_fit hM (ownK b)
  have fit2 := getN_fit hM (epK b)
  obtain ⟨Q, hQ⟩ : ∃ Q : Ending → World → Prop, Q = fun e w' => e = .returned (hldV S b) ∧ Frm [] w w' := ⟨_, rfl⟩
  rw [← hQ]
  have NO : Hid (isN S.nodes (ownK b) = false → ∀ z, Frm [] w z → Q (.returned (.tuple #[.int .u64 0, .int .u64 0, .bool false])) z) := Lib.hid (fun hi z hz => by
    rw [hQ]; exact ⟨by unfold hldV; rw [if_neg (by simp [hi])], hz⟩)
  have YES : Hid (isN S.nodes (ownK b) = true → ∀ z, Frm [] w z → Q (.returned (.tuple #[.int .u64 (numB (getN S.nodes (ownK b)).v : Nat), .int .u64 (numB (getN S.nodes (epK b)).v : Nat), .bool true])) z) := Lib.hid (fun hi z hz => by
    rw [hQ]; exact ⟨by unfold hldV epB; rw [if_pos hi], hz⟩)
  obtain ⟨is, his⟩ : ∃ is, is = isN S.nodes (ownK b) := ⟨_, rfl⟩
  obtain ⟨d, hd⟩ : ∃ d, d = getN S.nodes (ownK b) := ⟨_, rfl⟩
  obtain ⟨ie, hie⟩ : ∃ ie, ie = isN S.nodes (epK b) := ⟨_, rfl⟩
  obtain ⟨c, hc⟩ : ∃ c, c = getN S.nodes (epK b) := ⟨_, rfl⟩
  rw [← his] at G1 NO YES
  rw [← hd] at G1 YES fit1
  rw [← hie, ← hc] at G2
  rw [← hc] at YES fit2
  unfold ownK at G1
  unfold epK at G2
  obtain ⟨yk, yv, yver, yown⟩ := d
  obtain ⟨xk, xv, xver, xown⟩ := c
  unfold GetPEnd at G1 G2
  simp only at G1 G2 YES fit1 fit2
  have nl4 : ¬ 9223372036854775807 < 4 + b.size := by omega
  have nl6 : ¬ 9223372036854775807 < 6 + b.size := by omega
  clear h hM hQ his hd hie hc
  go_enter Tryz.func15, Tryz.ntmps15
  go_wp2_with fail
  (with_reducible refine G1.out.mono ?_)
  rintro e w2 ⟨ya, yc, rfl, hb2, hn2, _, hf2⟩
  cases is
  · have FIN := Lib.hid (fun z hz => NO.out rfl z hz)
    clear NO YES hb2 hn2
    go_wp2
    exact FIN.out _ (by repeat (first | assumption | apply Frm.drew | apply Frm.alloc))
  · have FIN := Lib.hid (fun z hz => YES.out rfl z hz)
    obtain ⟨y, hy⟩ : ∃ y, y = w2.heap.size := ⟨_, rfl⟩
    obtain ⟨w3, hw3⟩ : ∃ w3, w3 = w2.alloc (.cells #[.string yk, .slice ya yv.length yc, .int .u64 (yver : Nat), .int .u64 (yown : Nat)] 58) := ⟨_, rfl⟩
    have f23 : Frm [] w2 w3 := by rw [hw3]; exact (Frm.refl _ _).alloc _
    have F3 : Hid (Frm [] w w3) := Lib.hid (hf2.trans f23 (by simp) (by simp))
    have B3 : Hid (Whole w3 y 58 #[.string yk, .slice ya yv.length yc, .int .u64 (yver : Nat), .int .u64 (yown : Nat)]) := Lib.hid (by rw [hw3, hy]; exact Whole.made _ _ _)
    have BB3 : Hid (Bytes w3 ya yv) := Lib.hid (f23.bytes hb2 (by simp))
    have HY := Lib.hid hy
    have HW3 := Lib.hid hw3
    have GE := Lib.hid (G2.out w3 F3.out)
    clear NO YES hf2 f23 hy hw3 hb2
    go_wp2_with fail
    rw [← HY.out, ← HW3.out]
    (with_reducible refine GE.out.mono ?_)
    rintro e w4 ⟨xa, xc, rfl, hb4, hn4, _, hf4⟩
    obtain ⟨x, hx⟩ : ∃ x, x = w4.heap.size := ⟨_, rfl⟩
    obtain ⟨w5, hw5⟩ : ∃ w5, w5 = w4.alloc (.cells #[.string xk, .slice xa xv.length xc, .int .u64 (xver : Nat), .int .u64 (xown : Nat)] 58) := ⟨_, rfl⟩
    have f45 : Frm [] w4 w5 := by rw [hw5]; exact (Frm.refl _ _).alloc _
    have F35 : Hid (Frm [] w3 w5) := Lib.hid (hf4.trans f45 (by simp) (by simp))
    have B5 : Hid (Whole w5 x 58 #[.string xk, .slice xa xv.length xc, .int .u64 (xver : Nat), .int .u64 (xown : Nat)]) := Lib.hid (by rw [hw5, hx]; exact Whole.made _ _ _)
    have BX5 : Hid (Bytes w5 xa xv) := Lib.hid (f45.bytes hb4 (by simp))
    have HX := Lib.hid hx
    have HW5 := Lib.hid hw5
    have N1 := Lib.hid (fun z (hz : Frm [] w5 z) => ownum_any ya yv.length yc yv z (hz.bytes (F35.out.bytes BB3.out (by simp)) (by simp)) rfl hn2 fit1)
    have N2 := Lib.hid (fun z (hz : Frm [] w5 z) => ownum_any xa xv.length xc xv z (hz.bytes BX5.out (by simp)) rfl hn4 fit2)
    have q1 : ∀ z, Frm [] w5 z → z.cell? ⟨y, 1, none⟩ = some (.slice ya yv.length yc) := fun z hz => (hz.whole (F35.out.whole B3.out (by simp)) (by simp)).cell 1
    have q2 : ∀ z, Frm [] w5 z → z.cell? ⟨x, 1, none⟩ = some (.slice xa xv.length xc) := fun z hz => (hz.whole B5.out (by simp)).cell 1
    have FF : Hid (∀ z, Frm [] w5 z → Frm [] w z) := Lib.hid (fun z hz => (F3.out.trans F35.out (U := []) (by simp) (by simp)).trans hz (by simp) (by simp))
    clear hf4 f45 hx hw5 hb4 hn2 hn4 fit1 fit2
    go_wp2
    rw [← HX.out, ← HW5.out]
    refine wp_region_held_drew (S := fun w' => Frm [] w5 w') (by kernel_rfl) (Frm.drew (Frm.refl _ _)) (fun hHeld => ?_)
    refine wpAnyH_take (i := 0) (oi := ⟨some 27, _, _, _, _, _⟩) (v := ?_) rfl (by kernel_rfl) (by kernel_rfl) (by kernel_rfl) (fun _ _ _ h => h) (Or.inl ⟨by rfl, ?_⟩) (by assumption) ?_
    rotate_left 1
    · (intro w hSw; (try dsimp only at hSw); go_simp; all_goals with_reducible rfl)
    try simp only [Act.put, List.setIfInBounds_toArray, List.set_cons_zero, List.set_cons_succ]
    refine wpAnyH_take (i := 1) (oi := ⟨some 28, _, _, _, _, _⟩) (v := ?_) rfl (by kernel_rfl) (by kernel_rfl) (by kernel_rfl) (fun _ _ _ h => h) (Or.inl ⟨by rfl, ?_⟩) (by assumption) ?_
    rotate_left 1
    · (intro w hSw; (try dsimp only at hSw); go_simp; all_goals with_reducible rfl)
    try simp only [Act.put, List.setIfInBounds_toArray, List.set_cons_zero, List.set_cons_succ]
    refine wpAnyH_take (i := 3) (oi := ⟨some 30, _, _, _, _, _⟩) (v := ?_) rfl (by kernel_rfl) (by kernel_rfl) (by kernel_rfl) (fun _ _ _ h => h) (Or.inl ⟨by rfl, ?_⟩) (by assumption) ?_
    rotate_left 1
    · (intro w hSw; (try dsimp only at hSw); go_simp; all_goals with_reducible rfl)
    try simp only [Act.put, List.setIfInBounds_toArray, List.set_cons_zero, List.set_cons_succ]
    refine wpAnyH_take (i := 4) (oi := ⟨some 31, _, _, _, _, _⟩) (v := ?_) rfl (by kernel_rfl) (by kernel_rfl) (by kernel_rfl) (fun _ _ _ h => h) (Or.inl ⟨by rfl, ?_⟩) (by assumption) ?_
    rotate_left 1
    · (intro w hSw; (try dsimp only at hSw); go_simp; all_goals with_reducible rfl)
    try simp only [Act.put, List.setIfInBounds_toArray, List.set_cons_zero, List.set_cons_succ]
    refine wpAnyH_ready (rs := [2]) (by kernel_rfl) (by simp) ?_
    refine AllReadyH.cons (o := ⟨some 29, _, _, _, _, _⟩) rfl (fun K hK => ?_) AllReadyH.nil
    go_simp
    ((with_reducible refine (N1.out _ (Frm.drew (Frm.refl [] w5))).mono ?_); rintro e w6 ⟨rfl, hf6⟩; have hfrm6 : Frm [] w5 w6 := (Frm.drew (Frm.refl [] w5)).trans hf6 (by simp) (by simp))
    go_wp2_with fail
    refine hK.out _ _ (by assumption) (fun hHeld => ?_)
    clear hK K
    try simp only [Act.put, List.setIfInBounds_toArray, List.set_cons_zero, List.set_cons_succ]
    refine wpAnyH_ready (rs := [5]) (by kernel_rfl) (by simp) ?_
    refine AllReadyH.cons (o := ⟨some 32, _, _, _, _, _⟩) rfl (fun K hK => ?_) AllReadyH.nil
    go_simp
    ((with_reducible refine (N2.out _ hfrm6).mono ?_); rintro e w7 ⟨rfl, hf7⟩; have hfrm7 : Frm [] w5 w7 := hfrm6.trans hf7 (by simp) (by simp))
    go_wp2_with fail
    refine hK.out _ _ (by assumption) (fun hHeld => ?_)
    clear hK K
    try simp only [Act.put, List.setIfInBounds_toArray, List.set_cons_zero, List.set_cons_succ]
    refine wpAnyH_take (i := 6) (oi := ⟨some 4, _, _, _, _, _⟩) (v := ?_) rfl (by kernel_rfl) (by kernel_rfl) (by kernel_rfl) (fun _ _ _ h => h) (Or.inl ⟨by rfl, ?_⟩) (by assumption) ?_
    rotate_left 1
    · (intro w hSw; (try dsimp only at hSw); go_simp; all_goals with_reducible rfl)
    try simp only [Act.put, List.setIfInBounds_toArray, List.set_cons_zero, List.set_cons_succ]
    refine wpAnyH_take (i := 7) (oi := ⟨some 5, _, _, _, _, _⟩) (v := ?_) rfl (by kernel_rfl) (by kernel_rfl) (by kernel_rfl) (fun _ _ _ h => h) (Or.inl ⟨by rfl, ?_⟩) (by assumption) ?_
    rotate_left 1
    · (intro w hSw; (try dsimp only at hSw); go_simp; all_goals with_reducible rfl)
    try simp only [Act.put, List.setIfInBounds_toArray, List.set_cons_zero, List.set_cons_succ]
    refine wpAnyH_take (i := 8) (oi := ⟨some 6, _, _, _, _, _⟩) (v := ?_) rfl (by kernel_rfl) (by kernel_rfl) (by kernel_rfl) (fun _ _ _ h => h) (Or.inl ⟨by rfl, ?_⟩) (by assumption) ?_
    rotate_left 1
    · (intro w hSw; (try dsimp only at hSw); go_simp; all_goals with_reducible rfl)
    try simp only [Act.put, List.setIfInBounds_toArray, List.set_cons_zero, List.set_cons_succ]
    refine wpAnyH_done (by kernel_rfl) ?_ _
    go_wp2
    exact FIN.out _ (FF.out _ hfrm7)
end Go.Proofs.YtcbpppdmkhpkkaaGreat
/- Sessions through ticks and renewals: who is live; what a tick makes of a keeper's keys. Of no program. -/
namespace Go.Proofs.YtcbpppdmkhpkkaaGreat
open Go.RowKit

theorem live_iff {last : Nat} {X : List Sn} (h : SrtS last X) {id now : Nat} : liveS X id now = true ↔ ∃ x ∈ X, x.id = id ∧ now < x.ends := by
  unfold liveS
  rw [Bool.and_eq_true, decide_eq_true_eq, decide_eq_true_eq]
  constructor
  · rintro ⟨h1, h2⟩
    exact ⟨_, by simp [h1], atS_at h1, h2⟩
  · rintro ⟨x, hx, rfl, h2⟩
    obtain ⟨i, hi, rfl⟩ := List.getElem_of_mem hx
    have e : atS X X[i].id = i := by
      rcases Nat.lt_trichotomy (atS X X[i].id) i with h3 | h3 | h3
      · have h4 := atS_at (X := X) (id := X[i].id) (by omega)
        have h5 := h.lt h3 hi
        rw [getS hi] at h5
        omega
      · exact h3
      · have := atS_before h3
        rw [getS hi] at this
        exact absurd rfl this
    rw [e, getS hi]
    exact ⟨hi, h2⟩
theorem SrtS.one {last : Nat} {X : List Sn} (h : SrtS last X) {x y : Sn} (hx : x ∈ X) (hy : y ∈ X) (e : x.id = y.id) : x = y := by
  obtain ⟨i, hi, rfl⟩ := List.getElem_of_mem hx
  obtain ⟨j, hj, rfl⟩ := List.getElem_of_mem hy
  rcases Nat.lt_trichotomy i j with h1 | h1 | h1
  · have := h.lt h1 hj; rw [getS hi, getS hj] at this; omega
  · subst h1; rfl
  · have := h.lt h1 hi; rw [getS hi, getS hj] at this; omega
/-- A tick. -/
def tickC (n : Nat) : MC := { kind := 6, ticks := n }
theorem tick_now (S : MS) (n : Nat) : (doS S (tickC n)).now = tickT S.now n := rfl
theorem tick_ses (S : MS) (n : Nat) : (doS S (tickC n)).ses = leftS (tickT S.now n) S.ses := rfl
theorem tick_look {S : MS} (h : MOk S) (n : Nat) (s : ByteArray) : lookK (doS S (tickC n)).nodes s = (lookK S.nodes s).filter (fun d => decide (d.own = 0 ∨ d.own ∉ goneS (tickT S.now n) S.ses)) := look_dropAll _ h.good s
theorem tick_few (S : MS) (n : Nat) : (doS S (tickC n)).nodes.length ≤ S.nodes.length := (dropAll_sub _ _).length_le
/-- Of a live session: behind a tick it is live, or it went. -/
theorem tick_live {S : MS} (h : MOk S) {n id : Nat} (hl : liveS S.ses id S.now = true) : id ∈ goneS (tickT S.now n) S.ses ↔ liveS (doS S (tickC n)).ses id (doS S (tickC n)).now = false := by
  obtain ⟨x, hx, rfl, _⟩ := (live_iff h.srt).1 hl
  rw [tick_ses, tick_now]
  have hs : SrtS S.last (leftS (tickT S.now n) S.ses) := h.srt.sub (leftS_sub _ _)
  have e : (liveS (leftS (tickT S.now n) S.ses) x.id (tickT S.now n) = false) ↔ ¬ (tickT S.now n < x.ends) := by
    rw [← Bool.not_eq_true, live_iff hs]
    constructor
    · intro h1 h2
      exact h1 ⟨x, List.mem_filter.2 ⟨hx, by unfold overS; simp; omega⟩, rfl, h2⟩
    · rintro h1 ⟨y, hy, hyi, hy2⟩
      have := h.srt.one (List.mem_filter.1 hy).1 hx hyi
      subst this
      exact h1 hy2
  rw [e]
  unfold goneS
  rw [List.mem_map]
  constructor
  · rintro ⟨y, hy, hyi⟩ h2
    obtain ⟨h3, h4⟩ := List.mem_filter.1 hy
    have := h.srt.one h3 hx hyi
    subst this
    unfold overS at h4
    simp at h4; omega
  · intro h2
    exact ⟨x, List.mem_filter.2 ⟨hx, by unfold overS; simp; omega⟩, rfl⟩
/-- A renewal changes nothing of who is live now. -/
def renewCm (id : Nat) : MC := { kind := 4, ses := id }
theorem renew_now (S : MS) (id : Nat) : (doS S (renewCm id)).now = S.now ∧ (doS S (renewCm id)).nodes = S.nodes ∧ (doS S (renewCm id)).last = S.last := by
  unfold doS renewCm
  simp only
  rw [if_neg (by decide), if_neg (by decide), if_neg (by decide), if_pos trivial]
  split <;> exact ⟨rfl, rfl, rfl⟩
theorem renew_live (S : MS) (id id' : Nat) : liveS (doS S (renewCm id)).ses id' S.now = liveS S.ses id' S.now := by
  have e : (doS S (renewCm id)).ses = S.ses ∨ (atS S.ses id < S.ses.length ∧ S.now < (S.ses.getD (atS S.ses id) default).ends ∧ (doS S (renewCm id)).ses = renewS S.ses (atS S.ses id) S.now) := by
    unfold doS renewCm
    simp only
    rw [if_neg (by decide), if_neg (by decide), if_neg (by decide), if_pos trivial]
    split
    · exact .inl rfl
    · show renewL S.ses id S.now = S.ses ∨ _
      unfold renewL
      split
      · rename_i hc
        refine .inr ?_
        unfold renewC at hc
        split at hc
        · rename_i h1
          split at hc
          · cases hc
          · rename_i h2
            exact ⟨h1, by omega, rfl⟩
        · cases hc
      · exact .inl rfl
  rcases e with e | ⟨h1, h2, e⟩
  · rw [e]
  · rw [e]
    have aid : ∀ (Y : List Sn), (∀ i : Nat, (Y[i]?).map Sn.id = (S.ses[i]?).map Sn.id) → Y.length = S.ses.length → atS Y id' = atS S.ses id' := fun Y hY hl => by
      unfold atS
      have : Y.map Sn.id = S.ses.map Sn.id := by
        apply List.ext_getElem?
        intro i
        rw [List.getElem?_map, List.getElem?_map]
        exact hY i
      have k : ∀ Z : List Sn, Z.findIdx (fun x => decide (x.id = id')) = (Z.map Sn.id).findIdx (fun i => decide (i = id')) := fun Z => by
        rw [List.findIdx_map]; rfl
      rw [k, k, this]
    unfold liveS renewS
    rw [aid _ (fun i => by
      rw [List.getElem?_set]
      split
      · rename_i hh
        subst hh
        simp [h1]
      · rfl) (by simp), List.length_set]
    by_cases h3 : atS S.ses id' = atS S.ses id
    · rw [h3]
      have e3 : (S.ses.set (atS S.ses id) { S.ses.getD (atS S.ses id) default with ends := max (S.ses.getD (atS S.ses id) default).ends (sumU S.now (S.ses.getD (atS S.ses id) default).life) }).getD (atS S.ses id) default = { S.ses.getD (atS S.ses id) default with ends := max (S.ses.getD (atS S.ses id) default).ends (sumU S.now (S.ses.getD (atS S.ses id) default).life) } := by
        simp [h1]
      rw [e3]
      congr 1
      rw [decide_eq_true h2, decide_eq_true_eq]
      show S.now < max _ _
      omega
    · have e3 : ∀ v : Sn, (S.ses.set (atS S.ses id) v).getD (atS S.ses id') default = S.ses.getD (atS S.ses id') default := fun v => by
        simp only [List.getD_eq_getElem?_getD]
        rw [List.getElem?_set_ne (fun hh => h3 hh.symm)]
      rw [e3]
end Go.Proofs.YtcbpppdmkhpkkaaGreat
/- Three sessions and one bundle: what holds all through. Of no program. -/
namespace Go.Proofs.YtcbpppdmkhpkkaaGreat
open Go.RowKit

/-- The bundle's name. -/
def bB : ByteArray := ⟨#[98]⟩
/-- The state of a keeper behind m steps: the bundle's number is ep, the session h + 1 has it. -/
structure OwOne (S : MS) (m ep : Nat) (h : Option Nat) : Prop where
  ok : MOk S
  ver : MVer (2 * m) S
  few : S.nodes.length ≤ 2 * m
  no : h = none → lookK S.nodes (ownK bB) = none
  yes : ∀ i, h = some i → i < 3 ∧ liveS S.ses (i + 1) S.now = true ∧ ∃ d, lookK S.nodes (ownK bB) = some d ∧ d.own = i + 1 ∧ numB d.v = i
  epv : epB S bB = ep
  le : ep ≤ m
  free : ∀ d, lookK S.nodes (epK bB) = some d → d.own = 0
  last : S.last = 3
theorem OwOne.more {S : MS} {m ep : Nat} {h : Option Nat} (o : OwOne S m ep h) : OwOne S (m + 1) ep h :=
  ⟨o.ok, fun d hd => by have := o.ver d hd; omega, by have := o.few; omega, o.no, o.yes, o.epv, by have := o.le; omega, o.free, o.last⟩
theorem OwOne.is {S : MS} {m ep : Nat} {h : Option Nat} (o : OwOne S m ep h) : isN S.nodes (ownK bB) = h.isSome := by
  rw [← look_is]
  cases e : h with
  | none => rw [o.no e]; rfl
  | some i => obtain ⟨_, _, d, hd, _⟩ := o.yes i e; rw [hd]; rfl
theorem OwOne.held {S : MS} {m ep i : Nat} (o : OwOne S m ep (some i)) : (getN S.nodes (ownK bB)).own = i + 1 ∧ numB (getN S.nodes (ownK bB)).v = i := by
  obtain ⟨_, _, d, hd, h1, h2⟩ := o.yes i rfl
  rw [← look_get, hd]
  exact ⟨h1, h2⟩
theorem acqS_ok {S : MS} {ses br : Nat} {b : ByteArray} (h : MOk S) (hs : ses < 18446744073709551616) (hb : b.size ≤ 4000) : MOk (acqS S ses br b) := by
  unfold acqS
  split
  · exact h
  · split
    · exact h
    · have h1 := h.does (acqC1_ok (ses := ses) (broker := br) hs hb)
      split
      · exact h1
      · exact h1.does (acqC2_ok h1 hb)
theorem acqS_ver {S : MS} {ses br m : Nat} {b : ByteArray} (h : MVer m S) (hm : m + 2 < 18446744073709551615) : MVer (m + 2) (acqS S ses br b) := by
  have up : ∀ {T : MS} {k : Nat}, MVer k T → k ≤ m + 2 → MVer (m + 2) T := fun hk hle d hd => by have := hk d hd; omega
  unfold acqS
  split
  · exact up h (by omega)
  · split
    · exact up h (by omega)
    · have h1 := h.does (c := acqC1 ses br b) (by omega)
      split
      · exact up h1 (by omega)
      · exact h1.does (by omega)
theorem OwOne.rel {S : MS} {m ep i : Nat} (o : OwOne S m ep (some i)) : relE S (i + 1) bB = 0 ∧ OwOne (relS S (i + 1) bB) (m + 1) ep none := by
  obtain ⟨e1, e2, e3, e4, e5, e6⟩ := rel_good (ses := i + 1) o.ok (by rw [o.is]; rfl) o.held.1
  have hsub : ∀ d ∈ (relS S (i + 1) bB).nodes, d ∈ S.nodes := by
    unfold relS
    split
    · exact fun d hd => hd
    · split
      · exact fun d hd => hd
      · unfold doS relC
        simp only
        rw [if_neg (by decide), if_pos trivial]
        exact fun d hd => (delL_sub _ _ _).subset hd
  have hok : MOk (relS S (i + 1) bB) := by
    unfold relS
    split
    · exact o.ok
    · split
      · exact o.ok
      · exact o.ok.does (relC_ok o.ok (by decide))
  refine ⟨e1, hok, fun d hd => by have := o.ver d (hsub d hd); omega, by have := o.few; omega, (fun _ => by rw [e6, if_pos rfl]), (fun j hj => by cases hj), ?_, by have := o.le; omega, ?_, by rw [e4]; exact o.last⟩
  · unfold epB
    rw [← look_get, e6, if_neg (fun h => own_ne_ep bB bB h.symm), look_get]
    exact o.epv
  · intro d hd
    rw [e6, if_neg (fun h => own_ne_ep bB bB h.symm)] at hd
    exact o.free d hd
/-- Time goes on by one, a session is renewed. -/
def owNext (S : MS) (i : Nat) : MS := doS (doS S (tickC 1)) (renewCm (i + 1))
theorem tickC_ok {n : Nat} (h : n < 18446744073709551616) : MCOk (tickC n) := ⟨by show 6 < 256; decide, by show (0 : Nat) ≤ 5000; decide, ⟨by show (0 : Nat) ≤ 5000; decide, by intro x hx; cases hx⟩, by show 0 < 18446744073709551616; decide, by show 0 < 18446744073709551616; decide, h⟩
theorem renewCm_ok {n : Nat} (h : n < 18446744073709551616) : MCOk (renewCm n) := ⟨by show 4 < 256; decide, by show (0 : Nat) ≤ 5000; decide, ⟨by show (0 : Nat) ≤ 5000; decide, by intro x hx; cases hx⟩, by show 0 < 18446744073709551616; decide, h, by show 0 < 18446744073709551616; decide⟩
theorem OwOne.tick {S : MS} {m ep : Nat} {h : Option Nat} (o : OwOne S m ep h) (i : Nat) (hi : i < 3) :
    OwOne (owNext S i) (m + 1) ep (h.filter fun j => liveS (owNext S i).ses (j + 1) (owNext S i).now) := by
  have h1 := o.ok.does (tickC_ok (n := 1) (by decide))
  have h2 := h1.does (renewCm_ok (n := i + 1) (by omega))
  obtain ⟨r1, r2, r3⟩ := renew_now (doS S (tickC 1)) (i + 1)
  have hn : (owNext S i).nodes = (doS S (tickC 1)).nodes := r2
  have hw : (owNext S i).now = (doS S (tickC 1)).now := r1
  have hlv : ∀ j, liveS (owNext S i).ses (j + 1) (owNext S i).now = liveS (doS S (tickC 1)).ses (j + 1) (doS S (tickC 1)).now := fun j => by
    rw [hw]; exact renew_live _ _ _
  have hk : ∀ s, lookK (owNext S i).nodes s = (lookK S.nodes s).filter (fun d => decide (d.own = 0 ∨ d.own ∉ goneS (tickT S.now 1) S.ses)) := fun s => by rw [hn]; exact tick_look o.ok 1 s
  have hsub : ∀ d ∈ (owNext S i).nodes, d ∈ S.nodes := fun d hd => by rw [hn] at hd; exact (dropAll_sub _ _).subset hd
  have hep : lookK (owNext S i).nodes (epK bB) = lookK S.nodes (epK bB) := by
    rw [hk]
    cases e : lookK S.nodes (epK bB) with
    | none => rfl
    | some d => simp only [Option.filter]; rw [if_pos (by simp [o.free d e])]
  have hown : ∀ j, h = some j → (liveS (owNext S i).ses (j + 1) (owNext S i).now = true → lookK (owNext S i).nodes (ownK bB) = lookK S.nodes (ownK bB)) ∧ (liveS (owNext S i).ses (j + 1) (owNext S i).now = false → lookK (owNext S i).nodes (ownK bB) = none) := fun j hj => by
    obtain ⟨_, hl, d, hd, ho, _⟩ := o.yes j hj
    have ht := tick_live o.ok (n := 1) hl
    rw [hk, hd, hlv]
    constructor
    · intro h3
      simp only [Option.filter]
      rw [if_pos]
      rw [decide_eq_true_eq, ho]
      exact .inr (fun hm => by rw [ht.1 hm] at h3; cases h3)
    · intro h3
      simp only [Option.filter]
      rw [if_neg]
      rw [decide_eq_true_eq, ho]
      rintro (h4 | h4)
      · omega
      · exact h4 (ht.2 h3)
  refine ⟨h2, fun d hd => by have := o.ver d (hsub d hd); omega, by rw [hn]; have := tick_few S 1; have := o.few; omega, ?_, ?_, ?_, by have := o.le; omega, (fun d hd => o.free d (by rw [← hep]; exact hd)), by show (doS (doS S (tickC 1)) (renewCm (i + 1))).last = 3; rw [r3]; exact o.last⟩
  · intro hnone
    cases e : h with
    | none => rw [hk, o.no e]; rfl
    | some j =>
      refine (hown j e).2 ?_
      rw [e] at hnone
      simp only [Option.filter] at hnone
      split at hnone
      · cases hnone
      · rename_i h3; simpa using h3
  · intro j hj
    cases e : h with
    | none => rw [e] at hj; cases hj
    | some j' =>
      rw [e] at hj
      simp only [Option.filter] at hj
      split at hj
      · rename_i h3
        injection hj with hj
        subst hj
        obtain ⟨y1, _, d, y3, y4, y5⟩ := o.yes j' e
        exact ⟨y1, h3, d, by rw [(hown j' e).1 h3]; exact y3, y4, y5⟩
      · cases hj
  · unfold epB
    rw [← look_get, hep, look_get]
    exact o.epv
end Go.Proofs.YtcbpppdmkhpkkaaGreat
/- Contract of the law's keeper: a keeper of a new disk. -/
namespace Go.Proofs.YtcbpppdmkhpkkaaGreat
open Go.RowKit
set_option maxRecDepth 100000
set_option maxHeartbeats 2000000 in
theorem owkeeper_any (w0 : World) (room : Nat) (w : World) (hf : Frm [] w0 w) (hr : room ≤ 16777216) :
    Calls Tryz.prog 8 #[.int .i64 (room : Nat)] w fun e w' => ∃ k, e = .returned (.pointer (some ⟨k, 0, none⟩)) ∧ Kv w0 w' k {} [] room := by
  have HN := Lib.hid (new_ok room w hr)
  have F0 := Lib.hid hf
  clear hf
  go_enter Tryz.func8, Tryz.ntmps8
  go_wp2_with fail
  (with_reducible refine HN.out.mono ?_)
  rintro e w1 ⟨rfl, hd, hf1, _⟩
  obtain ⟨dp, hdp⟩ : ∃ dp, dp = w.heap.size := ⟨_, rfl⟩
  rw [← hdp] at hd ⊢
  have HO := Lib.hid (kv_open w0 w1 dp room hd (F0.out.trans hf1 (by simp) (by simp)) (by rw [hdp]; exact F0.out.size))
  clear hd hf1 hdp
  go_wp2_with fail
  (with_reducible refine HO.out.mono ?_)
  rintro e w2 ⟨k, rfl, hk⟩
  have HK := Lib.hid hk
  clear hk
  go_wp2
  go_ret
  exact ⟨k, rfl, HK.out⟩
end Go.Proofs.YtcbpppdmkhpkkaaGreat
/- A keeper of a disk of its own through owners' calls (Ko): what each answers and leaves; no keeper. -/
namespace Go.Proofs.YtcbpppdmkhpkkaaGreat
open Go.RowKit
set_option maxRecDepth 100000

/-- Since w0 a keeper of a disk of its own, with the state S, versions up to m, at most n bytes on its disk; nothing of it in the blocks Z. -/
def Ko (w0 w : World) (Z : List Nat) (k : Nat) (S : MS) (room m n : Nat) : Prop :=
  ∃ jq dp Fd l, Kp w w0.heap.size Z k jq dp Fd S l room ∧ Frm [] w0 w ∧ MOk S ∧ MVer m S ∧ l.length ≤ n ∧ ∀ x ∈ Z, x < w.heap.size
/-- The blocks Z are as they were. -/
def ZKeep (Z : List Nat) (w w' : World) : Prop := ∀ g ∈ Z, ∀ t cs, Whole w g t cs → Whole w' g t cs
theorem ZKeep.of {Z T : List Nat} {w w' : World} (hf : Frm T w w') (hT : ∀ x ∈ T, x ∉ Z) : ZKeep Z w w' := fun g hg _ _ hw => hf.whole hw (fun hm => hT g hm hg)
theorem MVer.up {m n : Nat} {S : MS} (h : MVer m S) (hn : m ≤ n) : MVer n S := fun d hd => by have := h d hd; omega
section
variable {w0 w w' : World} {Z Z' : List Nat} {k : Nat} {S S' : MS} {room m n : Nat}
theorem Ko.frm (h : Ko w0 w Z k S room m n) : Frm [] w0 w := by obtain ⟨_, _, _, _, _, h2, _⟩ := h; exact h2
theorem Ko.ok (h : Ko w0 w Z k S room m n) : MOk S := by obtain ⟨_, _, _, _, _, _, h3, _⟩ := h; exact h3
theorem Ko.ver (h : Ko w0 w Z k S room m n) : MVer m S := by obtain ⟨_, _, _, _, _, _, _, h4, _⟩ := h; exact h4
theorem Ko.more {m' n' : Nat} (h : Ko w0 w Z k S room m n) (hm : m ≤ m') (hn : n ≤ n') : Ko w0 w Z k S room m' n' := by
  obtain ⟨jq, dp, Fd, l, h1, h2, h3, h4, h5, h6⟩ := h
  exact ⟨jq, dp, Fd, l, h1, h2, h3, h4.up hm, by omega, h6⟩
theorem Ko.here (h : Ko w0 w Z k S room m n) (hf : Frm [] w w') (hZ : ∀ x ∈ Z', x ∈ Z ∨ w.heap.size ≤ x) (hZl : ∀ x ∈ Z', x < w'.heap.size) : Ko w0 w' Z' k S room m n := by
  obtain ⟨jq, dp, Fd, l, h1, h2, h3, h4, h5, h6⟩ := h
  exact ⟨jq, dp, Fd, l, h1.keep hf (by simp) hZ, h2.trans hf (by simp) (by simp), h3, h4, h5, hZl⟩
theorem Ko.same (h : Ko w0 w Z k S room m n) (hf : Frm [] w w') : Ko w0 w' Z k S room m n := by
  have hz := h
  obtain ⟨_, _, _, _, _, _, _, _, _, h6⟩ := hz
  exact h.here hf (fun x hx => .inl hx) (fun x hx => Nat.lt_of_lt_of_le (h6 x hx) hf.size)
/-- What a call leaves. -/
theorem Ko.to {jq dp : Nat} {Fd l : List Nat} {a m' : Nat} (h1 : Kp w w0.heap.size Z k jq dp Fd S l room) (h2 : Frm [] w0 w) (h5 : l.length ≤ n) (h6 : ∀ x ∈ Z, x < w.heap.size) (hM : MOk S') (hV : MVer m' S') (t : KpTo w w0.heap.size Z k jq dp Fd S l room S' a w') : Ko w0 w' Z k S' room m' (n + a) ∧ ZKeep Z w w' := by
  obtain ⟨Fd', l', k1, f1, x1, l1, _⟩ := t
  have q1 := kp_pos h1
  exact ⟨⟨jq, dp, Fd', l', k1, h2.trans f1 (by simp) (fun x hx => .inr (q1 x hx).2.1), hM, hV, by omega, fun x hx => Nat.lt_of_lt_of_le (h6 x hx) f1.size⟩, ZKeep.of f1 (fun x hx => (q1 x hx).1)⟩
theorem ko_do (c : MC) (a : Option Addr) (cap : Nat) (h : Ko w0 w Z k S room m n) (hm : m < 18446744073709551615) (hc : MCOk c) (hb : Bytes w a c.val) (hnil : a = none → cap = 0) (hk : c.kind ≠ 7) (hl : c.key.size + c.val.length ≤ 4000) (hr : n + 5000 ≤ room) :
    Calls Tryz.prog 13 #[.pointer (some ⟨k, 0, none⟩), cmdV c a cap] w fun e w' => ∃ (r : Nat) (ga : Option Addr) (gn gc : Nat), e = .returned (.tuple #[.int .u64 (r : Nat), .slice ga gn gc, .int .i64 (doE S c : Nat)]) ∧ (doE S c = 0 → r = doN S c) ∧ Ko w0 w' Z k (doS S c) room (m + 1) (n + 4104) ∧ ZKeep Z w w' := by
  obtain ⟨jq, dp, Fd, l, h1, h2, h3, h4, h5, h6⟩ := h
  refine (kdo_to c a cap h1 h3 h4 hc h6 hb hnil hk hl (by omega)).mono ?_
  rintro e w' ⟨r, ga, gn, gc, he, hr', t⟩
  exact ⟨r, ga, gn, gc, he, hr', Ko.to h1 h2 h5 h6 (h3.does hc) (h4.does hm) t⟩
theorem ko_acq (ses br : Nat) (b : ByteArray) (h : Ko w0 w Z k S room m n) (hm : m + 2 < 18446744073709551615) (hs : ses < 18446744073709551616) (hbr : br < 18446744073709551616) (hb : b.size ≤ 2900) (hr : n + 10000 ≤ room) :
    Calls Tryz.prog 9 #[.pointer (some ⟨k, 0, none⟩), .int .u64 (ses : Nat), .int .u64 (br : Nat), .string b] w fun e w' => e = .returned (.tuple #[.int .u64 (acqR S ses br b : Nat), .int .i64 (acqE S ses br b : Nat)]) ∧ Ko w0 w' Z k (acqS S ses br b) room (m + 2) (n + 8208) ∧ ZKeep Z w w' := by
  obtain ⟨jq, dp, Fd, l, h1, h2, h3, h4, h5, h6⟩ := h
  refine (owpacq_any ses br b h1 h3 h4 (by omega) h6 hs hbr hb (by omega)).mono ?_
  rintro e w' ⟨he, t⟩
  exact ⟨he, Ko.to h1 h2 h5 h6 (acqS_ok h3 hs (by omega)) (acqS_ver h4 (by omega)) t⟩
theorem relS_ok {b : ByteArray} {ses : Nat} (h : MOk S) (hb : b.size ≤ 4000) : MOk (relS S ses b) := by
  unfold relS
  split
  · exact h
  · split
    · exact h
    · exact h.does (relC_ok h hb)
theorem relS_ver {b : ByteArray} {ses : Nat} (h : MVer m S) : MVer m (relS S ses b) := by
  unfold relS
  split
  · exact h
  · split
    · exact h
    · unfold doS relC
      simp only
      rw [if_neg (by decide), if_pos trivial]
      exact fun d hd => h d ((delL_sub _ _ _).subset hd)
theorem ko_rel (ses : Nat) (b : ByteArray) (h : Ko w0 w Z k S room m n) (hs : ses < 18446744073709551616) (hb : b.size ≤ 2900) (hr : n + 10000 ≤ room) :
    Calls Tryz.prog 11 #[.pointer (some ⟨k, 0, none⟩), .int .u64 (ses : Nat), .string b] w fun e w' => e = .returned (.int .i64 (relE S ses b : Nat)) ∧ Ko w0 w' Z k (relS S ses b) room m (n + 4104) ∧ ZKeep Z w w' := by
  obtain ⟨jq, dp, Fd, l, h1, h2, h3, h4, h5, h6⟩ := h
  refine (owprel_any ses b h1 h3 h4 h6 hs hb (by omega)).mono ?_
  rintro e w' ⟨he, t⟩
  exact ⟨he, Ko.to h1 h2 h5 h6 (relS_ok h3 (by omega)) (relS_ver h4) t⟩
theorem ko_hld (b : ByteArray) (h : Ko w0 w Z k S room m n) (hb : b.size ≤ 2900) :
    Calls Tryz.prog 15 #[.pointer (some ⟨k, 0, none⟩), .string b] w fun e w' => e = .returned (hldV S b) ∧ Frm [] w w' := by
  obtain ⟨jq, dp, Fd, l, h1, h2, h3, h4, h5, h6⟩ := h
  exact owphld_any b h1 h3 hb
end
theorem ko_new (w0 : World) (room : Nat) (w : World) (hf : Frm [] w0 w) (hr : room ≤ 16777216) :
    Calls Tryz.prog 8 #[.int .i64 (room : Nat)] w fun e w' => ∃ k, e = .returned (.pointer (some ⟨k, 0, none⟩)) ∧ Ko w0 w' [] k {} room 0 0 := by
  refine (owkeeper_any w0 room w hf hr).mono ?_
  rintro e w' ⟨k, he, jq, dp, Fd, h1, h2, h3⟩
  exact ⟨k, he, jq, dp, Fd, [], h1, h2, h3, MVer.first 0, by simp, by simp⟩
end Go.Proofs.YtcbpppdmkhpkkaaGreat
/- Contracts of the law's value, number. -/
namespace Go.Proofs.YtcbpppdmkhpkkaaGreat
open Go.RowKit
set_option maxRecDepth 100000

/-- Eight bytes of the call's own. -/
def ValE (w : World) (n : Nat) (e : Ending) (w' : World) : Prop := ∃ a' c', e = .returned (.slice a' (be 8 n).length c') ∧ Bytes w' a' (be 8 n) ∧ (a' = none → c' = 0) ∧ (∀ q, a' = some q → w.heap.size ≤ q.block) ∧ Frm [] w w'
set_option maxHeartbeats 1000000 in
theorem owvalue_any (n : Nat) (w : World) (hn : n < 18446744073709551616) : Calls Tryz.prog 28 #[.int .u64 (n : Nat)] w (ValE w n) := by
  have H : Hid (Calls Tryz.prog 56 #[.slice none 0 0, .int .u64 (n : Nat), .int .i64 8] w (RPut w w.heap.size none [] (be 8 n))) := Lib.hid (ref_put_any w.heap.size none 0 [] n 8 w (World.ownsRow_nil _ _ _ _) (Nat.le_refl _) hn (by decide) (by decide))
  have HE : Hid (∀ e w', RPut w w.heap.size none [] (be 8 n) e w' → ValE w n e w') := Lib.hid (fun e w' ⟨a', c', he, ho, hf, hp⟩ => by
    rw [List.nil_append] at he ho
    refine ⟨a', c', he, (own_bytes ho (be_lt 8 n)).1, (own_bytes ho (be_lt 8 n)).2, fun q hq => ?_, hf.weak (by simp [ob])⟩
    have := hp q.block (by rw [hq]; simp [ob])
    simpa [ob] using this)
  go_enter Tryz.func28, Tryz.ntmps28
  go_wp2_with fail
  (with_reducible refine H.out.mono ?_)
  rintro e w' hr
  have HX := Lib.hid (HE.out _ _ hr)
  obtain ⟨a', c', rfl, _⟩ := hr
  go_wp2
  go_ret
  exact HX.out

set_option maxHeartbeats 1000000 in
/-- Number of a Reader whose bytes' room is not known: eight of them. -/
theorem ownum_ok {w : World} {rb n cap : Nat} {l : List Nat} {a : Option Addr} (hw : Whole w rb 104 #[.slice a n cap, .int .i64 0]) (hb : Bytes w a l) (hn : n = l.length) (h8 : 8 ≤ n) :
    Calls Tryz.prog 43 #[.pointer (some ⟨rb, 0, none⟩), .int .i64 8] w fun e w' => e = .returned (.int .u64 (val (l.take 8) : Nat)) ∧ w' = w.setCell ⟨rb, 0, none⟩ (.slice (cutAt a cap 8) (n - 8) (cap - 8)) := by
  have c0 := hw.cell 0
  have c1 := hw.cell 1
  have f0 := hw.free 0
  simp at c0 c1
  have hll := hb.2.1
  have hcut := fun (w : World) => run_cut_l (P := Tryz.prog) Tryz.underlying36 size_byte w a n cap 8 8 rfl h8
  obtain ⟨a2, ha2⟩ : ∃ a2, a2 = cutAt a cap 8 := ⟨_, rfl⟩
  obtain ⟨n2, hn2⟩ : ∃ n2, n2 = n - 8 := ⟨_, rfl⟩
  obtain ⟨c2, hc2⟩ : ∃ c2, c2 = cap - 8 := ⟨_, rfl⟩
  rw [← ha2, ← hn2, ← hc2] at hcut
  rw [← ha2, ← hn2, ← hc2]
  clear ha2 hn2 hc2
  have HB := Lib.hid hb
  have HN := Lib.hid hn
  have hl8 : 8 ≤ l.length := by omega
  have n63 : n ≤ 9223372036854775807 := by omega
  clear hw hb hn
  go_enter Tryz.func43, Tryz.ntmps43
  go_wp2
  go_loop [5, 6] (fun n i => ∃ j : Nat, j ≤ 8 ∧ i = .int .i64 j ∧ n = .int .u64 (val (l.take j) : Nat)) (fun _ i => 8 - (intOf i).toNat)
  case atStart => exact ⟨0, Nat.zero_le _, rfl, rfl⟩
  case round =>
    obtain ⟨j, hj, rfl, rfl⟩ := hrel
    by_cases hlt : j < 8
    · have hx := val_take_lt8 HB.out.1 j (by omega)
      have hs := val_take_succ l j (by omega)
      have hc8 := getD_lt HB.out.1 j
      obtain ⟨b, off, rfl, hcl⟩ : ∃ b off, a = some ⟨b, off, none⟩ ∧ w.cell? ⟨b, off + j, none⟩ = some (.int .u8 (l.getD j 0 : Nat)) := by
        rcases HB.out.2.2 with h | ⟨b, off, h, hh⟩
        · rw [h] at hl8; simp at hl8
        · exact ⟨b, off, h, hh j (by omega)⟩
      obtain ⟨x, hx'⟩ : ∃ x, x = val (l.take j) := ⟨_, rfl⟩
      obtain ⟨c, hc'⟩ : ∃ c, c = l.getD j 0 := ⟨_, rfl⟩
      rw [← hx', ← hc'] at hs
      rw [← hx'] at hx ⊢
      rw [← hc'] at hc8 hcl
      have HX := Lib.hid hx'; clear hx'
      have HC := Lib.hid hc'; clear hc'
      have HS := Lib.hid hs; clear hs
      have hlj : (j : Int) < (n : Int) := by omega
      go_wp2
      go_round
      case rel => exact ⟨j + 1, by omega, by go_num, same_int (by rw [HS.out]; omega)⟩
      case measure => simp [intOf]; omega
    · obtain rfl : j = 8 := by omega
      go_wp2
      go_ret
      exact ⟨rfl, rfl⟩
set_option maxHeartbeats 1000000 in
theorem ownum_short {w : World} {rb n cap : Nat} {a : Option Addr} (hw : Whole w rb 104 #[.slice a n cap, .int .i64 0]) (h8 : n < 8) :
    Calls Tryz.prog 43 #[.pointer (some ⟨rb, 0, none⟩), .int .i64 8] w fun e w' => e = .returned (.int .u64 0) ∧ w' = w.setCell ⟨rb, 1, none⟩ (.int .i64 4) := by
  have c0 := hw.cell 0
  have c1 := hw.cell 1
  have f1 := hw.free 1
  simp at c0 c1
  have hd : decide ((n : Int) < 8) = true := decide_eq_true (by omega)
  clear hw
  go_enter Tryz.func43, Tryz.ntmps43
  go_wp2
  go_ret
  exact ⟨rfl, rfl⟩
set_option maxHeartbeats 1000000 in
theorem owend_any {w : World} {rb n cap c : Nat} {a : Option Addr} (hw : Whole w rb 104 #[.slice a n cap, .int .i64 (c : Nat)]) :
    Calls Tryz.prog 44 #[.pointer (some ⟨rb, 0, none⟩)] w fun e w' => ∃ k : Nat, e = .returned (.int .i64 (k : Nat)) ∧ (k = 0 ↔ c = 0 ∧ n = 0) ∧ Frm [rb] w w' := by
  have c0 := hw.cell 0
  have c1 := hw.cell 1
  have f1 := hw.free 1
  simp at c0 c1
  clear hw
  by_cases hc : c = 0
  · subst hc
    by_cases hn : n = 0
    · subst hn
      go_enter Tryz.func44, Tryz.ntmps44
      go_wp2
      go_ret
      exact ⟨0, rfl, by simp, Frm.refl _ _⟩
    · have hn' : 0 < (n : Int) := by omega
      have F : Hid (Frm [rb] w (w.setCell ⟨rb, 1, none⟩ (.int .i64 5))) := Lib.hid ((Frm.refl _ _).setCell (.inl (by simp)) _)
      have HN := Lib.hid hn
      clear hn
      go_enter Tryz.func44, Tryz.ntmps44
      go_wp2
      go_ret
      exact ⟨5, rfl, by have := HN.out; simp; omega, F.out⟩
  · have hb : ((c : Int) == 0) = false := by simp [hc]
    have HC := Lib.hid hc
    clear hc
    go_enter Tryz.func44, Tryz.ntmps44
    go_wp2
    go_ret
    exact ⟨c, rfl, by have := HC.out; omega, Frm.refl _ _⟩
set_option maxHeartbeats 1000000 in
theorem ownumber_any (a : Option Addr) (n cap : Nat) (l : List Nat) (w : World) (hl : Bytes w a l) (hn : n = l.length) :
    Calls Tryz.prog 17 #[.slice a n cap] w fun e w' => e = .returned (.int .u64 (numB l : Nat)) ∧ Frm [] w w' := by
  obtain ⟨rb, hrb⟩ : ∃ rb, rb = w.heap.size := ⟨_, rfl⟩
  obtain ⟨w1, hw1⟩ : ∃ w1, w1 = w.alloc (.cells #[.slice a n cap, .int .i64 0] 104) := ⟨_, rfl⟩
  have f1 : Frm [] w w1 := by rw [hw1]; exact (Frm.refl _ _).alloc _
  have B1 : Hid (Whole w1 rb 104 #[.slice a n cap, .int .i64 0]) := Lib.hid (by rw [hw1, hrb]; exact Whole.made _ _ _)
  have F1 := Lib.hid f1
  have HRB := Lib.hid hrb
  have HW1 := Lib.hid hw1
  have UP : Hid (∀ z z', Frm [] w z → Frm [rb] z z' → Frm [] w z') := Lib.hid (fun z z' h1 h2 => h1.trans h2 (by simp) (fun x hx => by simp at hx; subst hx; exact .inr (by rw [hrb]; exact Nat.le_refl _)))
  have ST : Hid (∀ (z : World) (i : Nat) (v : Value), Frm [rb] z (z.setCell ⟨rb, i, none⟩ v)) := Lib.hid (fun z i v => (Frm.refl _ _).setCell (.inl (by simp)) _)
  by_cases h8 : n < 8
  · have NB : Hid (numB l = 0) := Lib.hid (by unfold numB; rw [if_neg (by omega)])
    have HN := Lib.hid (ownum_short B1.out h8)
    have HE := Lib.hid (owend_any (c := 4) (by have := B1.out.put 1 (.int .i64 4); simpa using this))
    rw [NB.out]
    clear hrb hw1 f1 hl hn
    go_enter Tryz.func17, Tryz.ntmps17
    go_wp2_with fail
    rw [← HRB.out, ← HW1.out]
    (with_reducible refine HN.out.mono ?_)
    rintro e w2 ⟨rfl, rfl⟩
    go_wp2_with fail
    (with_reducible refine HE.out.mono ?_)
    rintro e w3 ⟨c, rfl, hc, hf3⟩
    have e1 : ((c : Int) != 0) = true := by simp; omega
    have FIN := Lib.hid (UP.out _ _ (UP.out _ _ F1.out (ST.out _ _ _)) hf3)
    clear hc hf3
    go_wp2
    go_ret
    exact ⟨rfl, FIN.out⟩
  · have HN := Lib.hid (ownum_ok B1.out (f1.bytes hl (by simp)) hn (by omega))
    have HE := Lib.hid (owend_any (c := 0) (by have := B1.out.put 0 (.slice (cutAt a cap 8) (n - 8) (cap - 8)); simpa using this))
    have NB : Hid ((n - 8 = 0 → numB l = val (l.take 8)) ∧ (n - 8 ≠ 0 → numB l = 0)) := Lib.hid ⟨fun h => by unfold numB; rw [if_pos (by omega), List.take_of_length_le (by omega)], fun h => by unfold numB; rw [if_neg (by omega)]⟩
    obtain ⟨N, hN⟩ : ∃ N, N = numB l := ⟨_, rfl⟩
    obtain ⟨v, hv⟩ : ∃ v, v = val (l.take 8) := ⟨_, rfl⟩
    rw [← hN] at NB ⊢
    rw [← hv] at NB HN
    clear hrb hw1 f1 hl hn hN hv
    go_enter Tryz.func17, Tryz.ntmps17
    go_wp2_with fail
    rw [← HRB.out, ← HW1.out]
    (with_reducible refine HN.out.mono ?_)
    rintro e w2 ⟨rfl, rfl⟩
    go_wp2_with fail
    (with_reducible refine HE.out.mono ?_)
    rintro e w3 ⟨c, rfl, hc, hf3⟩
    have FIN := Lib.hid (UP.out _ _ (UP.out _ _ F1.out (ST.out _ _ _)) hf3)
    by_cases h0 : n - 8 = 0
    · have e2 := NB.out.1 h0
      have hc0 : c = 0 := hc.2 ⟨by first | trivial | rfl, h0⟩
      subst hc0
      subst e2
      clear hc hf3 h0
      go_wp2
      go_ret
      exact ⟨rfl, FIN.out⟩
    · have e2 := NB.out.2 h0
      have e1 : ((c : Int) != 0) = true := by
        have : c ≠ 0 := fun h => h0 (hc.1 h).2
        simp [this]
      subst e2
      clear hc hf3 h0
      go_wp2
      go_ret
      exact ⟨rfl, FIN.out⟩
end Go.Proofs.YtcbpppdmkhpkkaaGreat
/- The document's State, copied into a block of its own, and stored back. -/
namespace Go.Proofs.YtcbpppdmkhpkkaaGreat
open Go.RowKit
set_option maxRecDepth 100000
theorem NOwn.less {w : World} {B : Nat} {e : TypeId} {F F' : List Nat} {a : Option Addr} {c : Nat} {X : List Nx} (h : NOwn w B e F a c X) (hF : ∀ x ∈ F', x ∈ F ∨ w.heap.size ≤ x) : NOwn w B e F' a c X := h.keep (S := []) (Frm.refl _ _) (by simp) hF
theorem SOwn.less {w : World} {B : Nat} {e : TypeId} {F F' : List Nat} {a : Option Addr} {c : Nat} {X : List Sn} (h : SOwn w B e F a c X) (hF : ∀ x ∈ F', x ∈ F ∨ w.heap.size ≤ x) : SOwn w B e F' a c X := h.keep (S := []) (Frm.refl _ _) (by simp) hF
/-- The cells of a State, and a block of the call's own that holds the same. -/
theorem Ds.cells {w : World} {B q : Nat} {F : List Nat} {S : MS} (h : Ds w B q F S) (hF : ∀ x ∈ F, x < w.heap.size) : ∃ ta tn tc ba bn bc, w.cell? ⟨q, 1, none⟩ = some (.slice ta tn tc) ∧ w.cell? ⟨q, 3, none⟩ = some (.slice ba bn bc) ∧
    ∀ w1 p, Frm [] w w1 → w.heap.size ≤ p → Whole w1 p 35 #[.int .u64 (S.now : Nat), .slice ta tn tc, .int .u64 (S.last : Nat), .slice ba bn bc] → Ds w1 B p (q :: F) S := by
  obtain ⟨a, c, X, ht, ha⟩ := h.tree
  obtain ⟨a2, c2, hb⟩ := h.book
  refine ⟨a, X.length, c, a2, S.ses.length, c2, ht.c0, hb.c1, fun w1 p hf hp hW => ?_⟩
  have hnew : ∀ x ∈ p :: q :: F, x ∈ q :: F ∨ w.heap.size ≤ x := fun x hx => by
    rcases List.mem_cons.1 hx with rfl | hx
    · exact .inr hp
    · exact .inl hx
  have hout : p ∉ q :: F := fun hm => by
    rcases List.mem_cons.1 hm with rfl | hm
    · have := h.plt; omega
    · have := hF p hm; omega
  have hBp : B ≤ p := by have := h.hp; have := h.plt; omega
  exact ⟨hW.cell 0, ⟨a, c, X, ⟨hW.cell 1, fun j => hW.free j, ht.row.keep hf (by simp) hnew, hBp, hout, ht.few⟩, ha⟩, a2, c2, ⟨hW.cell 2, hW.cell 3, fun j => hW.free j, hb.row.keep hf (by simp) hnew, hBp, hout, hb.few, hb.lt⟩⟩
/-- The State at p is stored into the block q. -/
theorem Ds.back {w w2 : World} {B p q : Nat} {F : List Nat} {S T : MS} (h : Ds w B p (q :: F) S) (hq : Ds w B q F T) (hf : Frm [q] w w2)
    (c0 : w2.cell? ⟨q, 0, none⟩ = w.cell? ⟨p, 0, none⟩) (c1 : w2.cell? ⟨q, 1, none⟩ = w.cell? ⟨p, 1, none⟩) (c2 : w2.cell? ⟨q, 2, none⟩ = w.cell? ⟨p, 2, none⟩) (c3 : w2.cell? ⟨q, 3, none⟩ = w.cell? ⟨p, 3, none⟩) (hfz : ∀ j, w2.frozen? ⟨q, j, none⟩ = false) : Ds w2 B q F S := by
  obtain ⟨a, c, X, ht, ha⟩ := h.tree
  obtain ⟨a2, c4, hb⟩ := h.book
  have hT : ∀ x ∈ [q], x ∈ p :: q :: F ∨ w.heap.size ≤ x := fun x hx => .inl (by simp at hx; simp [hx])
  have hS : ∀ x ∈ q :: F, x ∈ p :: q :: F ∨ w.heap.size ≤ x := fun x hx => .inl (List.mem_cons_of_mem _ hx)
  exact ⟨c0.trans h.n0, ⟨a, c, X, ⟨c1.trans ht.c0, hfz, ht.row.keep hf hT hS, hq.hp, hq.out, ht.few⟩, ha⟩, a2, c4, ⟨c2.trans hb.c0, c3.trans hb.c1, hfz, hb.row.keep hf hT hS, hq.hp, hq.out, hb.few, hb.lt⟩⟩
end Go.Proofs.YtcbpppdmkhpkkaaGreat
/- What the document's State says: List, Get, Live, the time. -/
namespace Go.Proofs.YtcbpppdmkhpkkaaGreat
open Go.RowKit
set_option maxRecDepth 100000
theorem ds_list {w : World} {B q : Nat} {F : List Nat} {S : MS} (P : ByteArray) (h : Ds w B q F S) (hF : ∀ x ∈ F, x < w.heap.size) (hP : P.size ≤ 9223372036854775807) :
    Calls Tryz.prog 20 #[.pointer (some ⟨q, 1, none⟩), .string P] w fun e w' => ∃ a' c' Y, nds Y = S.nodes.filter (fun d => pfx P d.k) ∧ e = .returned (.slice a' Y.length c') ∧ NL w' (q :: F) a' Y ∧ Frm [] w w' := by
  obtain ⟨a, c, X, ht, ha⟩ := h.tree
  refine (slist_any P ht hF hP).mono ?_
  rintro e w' ⟨a', c', he, ho, hf⟩
  exact ⟨a', c', lsN P X, ha.list P, he, ho.nl, hf⟩
theorem ds_get {w : World} {B q : Nat} {F : List Nat} {S : MS} (s : ByteArray) (h : Ds w B q F S) :
    Calls Tryz.prog 16 #[.pointer (some ⟨q, 1, none⟩), .string s] w fun e w' => ∃ x : Nx, x.t = getN S.nodes s ∧ e = .returned (.tuple #[x.val, .bool (isN S.nodes s)]) ∧ NxOk w' (q :: F) x ∧ Frm [] w w' := by
  obtain ⟨a, c, X, ht, ha⟩ := h.tree
  refine (sget_any s ht).mono ?_
  rintro e w' ⟨he, hf⟩
  obtain ⟨h1, h2⟩ := sget_like ha s
  rw [h2] at he
  refine ⟨_, h1, he, ?_, hf⟩
  by_cases hin : atN X s < X.length
  · have hm : X.getD (atN X s) default ∈ X := by rw [getD_get hin]; exact List.getElem_mem hin
    exact (ht.row.nl.ok _ hm).keep hf (by simp) (fun x hx => .inl hx)
  · have e0 : X.getD (atN X s) default = (default : Nx) := by
      have := atN_le X s
      simp [List.getD, show atN X s = X.length by omega]
    rw [e0]
    exact ⟨Bytes.nil _, fun hne => absurd rfl hne, fun _ => rfl, by decide, by decide, by decide⟩
end Go.Proofs.YtcbpppdmkhpkkaaGreat
/- Contract of the law's release (of the document's State). -/
namespace Go.Proofs.YtcbpppdmkhpkkaaGreat
open Go.RowKit
set_option maxRecDepth 100000

def RelEnd (w : World) (B q : Nat) (F : List Nat) (S : MS) (ses : Nat) (b : ByteArray) (e : Ending) (w' : World) : Prop := e = .returned (.int .i64 (relE S ses b : Nat)) ∧ Ds w' B q F (relS S ses b) ∧ Frm [q] w w' ∧ OthS q w w'
set_option maxHeartbeats 4000000 in
theorem owrel_any {w : World} {B q : Nat} {F : List Nat} {S : MS} (ses : Nat) (b : ByteArray) (h : Ds w B q F S) (hM : MOk S) (hF : ∀ x ∈ F, x < w.heap.size) (hs : ses < 18446744073709551616) (hb : b.size ≤ 4000) :
    Calls Tryz.prog 12 #[.pointer (some ⟨q, 0, none⟩), .int .u64 (ses : Nat), .string b] w (RelEnd w B q F S ses b) := by
  have G : Hid _ := Lib.hid (ds_get (ownK b) h)
  unfold ownK at G
  have HG2 := getN_ver hM (ownK b)
  have DO : Hid (∀ z, Frm [] w z → Calls Tryz.prog 14 #[.pointer (some ⟨q, 0, none⟩), cmdV (relC S b) none 0] z (RdEnd z B q F S (relC S b))) := Lib.hid (fun z hz =>
    rdo_any (relC S b) none 0 (h.keep hz (by simp) (by simp)) hM (relC_ok hM hb) (fun x hx => Nat.lt_of_lt_of_le (hF x hx) hz.size) (Bytes.nil _) (fun _ => rfl))
  have KEEP : Hid (∀ z, Frm [] w z → Ds z B q F S ∧ OthS q w z) := Lib.hid (fun z hz => ⟨h.keep hz (by simp) (by simp), OthS.frm hz h.plt⟩)
  obtain ⟨Q, hQ⟩ : ∃ Q, Q = RelEnd w B q F S ses b := ⟨_, rfl⟩
  rw [← hQ]
  obtain ⟨d, hd⟩ : ∃ d, d = getN S.nodes (ownK b) := ⟨_, rfl⟩
  have e0 : isN S.nodes (ownK b) = false → relE S ses b = 11 ∧ relS S ses b = S := fun hi => ⟨by unfold relE; rw [if_pos hi], by unfold relS; rw [if_pos hi]⟩
  have e1 : isN S.nodes (ownK b) = true → d.own ≠ ses → relE S ses b = 50 ∧ relS S ses b = S := fun hi ho => ⟨by unfold relE; rw [if_neg (by simp [hi]), if_pos (by rw [← hd]; exact ho)], by unfold relS; rw [if_neg (by simp [hi]), if_pos (by rw [← hd]; exact ho)]⟩
  have e2 : isN S.nodes (ownK b) = true → d.own = ses → relE S ses b = doE S (relC S b) ∧ relS S ses b = doS S (relC S b) := fun hi ho => ⟨by unfold relE; rw [if_neg (by simp [hi]), if_neg (by rw [← hd]; simp [ho])], by unfold relS; rw [if_neg (by simp [hi]), if_neg (by rw [← hd]; simp [ho])]⟩
  have SAME : Hid (∀ (c : Nat) z, relE S ses b = c ∧ relS S ses b = S → Frm [] w z → Q (.returned (.int .i64 (c : Nat))) z) := Lib.hid (fun c z hc hz => by
    rw [hQ]
    refine ⟨by rw [hc.1], by rw [hc.2]; exact (KEEP.out z hz).1, hz.weak (by simp), (KEEP.out z hz).2⟩)
  have LAST : Hid (isN S.nodes (ownK b) = true → d.own = ses → ∀ z z' e, Frm [] w z → RdEnd z B q F S (relC S b) e z' → ∃ n g, e = .returned (.tuple #[n, g, .int .i64 (doE S (relC S b) : Nat)]) ∧ Q (.returned (.int .i64 (doE S (relC S b) : Nat))) z') := Lib.hid (fun hi ho z z' e hz ⟨ga, gc, he, _, _, hd', hf', hot⟩ => by
    obtain ⟨e3, e4⟩ := e2 hi ho
    refine ⟨_, _, he, ?_⟩
    rw [hQ]
    exact ⟨by rw [e3], by rw [e4]; exact hd', hz.trans hf' (by simp) (fun x hx => .inl hx), (KEEP.out z hz).2.trans hot⟩)
  have CV : Hid (cmdV (relC S b) none 0 = .agg #[.int .u8 2, .string (⟨#[111, 119, 110, 47]⟩ ++ b), .slice none 0 0, .int .u64 (d.ver : Nat), .int .u64 0, .int .u64 0]) := Lib.hid (by rw [hd]; rfl)
  obtain ⟨C, hC⟩ : ∃ C, C = relC S b := ⟨_, rfl⟩
  rw [← hC] at DO LAST CV
  have E0 := Lib.hid e0
  have E1 := Lib.hid e1
  obtain ⟨is, his⟩ : ∃ is, is = isN S.nodes (ownK b) := ⟨_, rfl⟩
  unfold ownK at hd his
  rw [← his] at G
  rw [← hd] at G
  rw [← show is = isN S.nodes (ownK b) from his] at E0 E1 LAST
  rw [show getN S.nodes (ownK b) = d from hd.symm] at HG2
  clear h hM hF hQ hd e0 e1 e2 hC his KEEP
  go_enter Tryz.func12, Tryz.ntmps12
  go_wp2_with fail
  (with_reducible refine G.out.mono ?_)
  rintro e w2 ⟨x, rfl, rfl, hx, hf2⟩
  have F2 := Lib.hid hf2
  clear hf2 hx
  obtain ⟨⟨xk, xv, xver, xown⟩, xa, xc⟩ := x
  unfold Nx.val
  simp only
  cases is
  · have FIN := Lib.hid (fun z hz => SAME.out 11 z (E0.out rfl) hz)
    have f3 := F2.out
    clear E0 E1
    go_wp2
    exact FIN.out _ (by repeat (first | assumption | apply Frm.drew | apply Frm.alloc))
  · by_cases ho : xown = ses
    · subst ho
      have b1 : ((xown : Int) != (xown : Int)) = false := by simp
      have L := Lib.hid (LAST.out rfl rfl)
      have f3 := F2.out
      have f4 := f3.alloc (.cells #[.string xk, .slice xa xv.length xc, .int .u64 (xver : Nat), .int .u64 (xown : Nat)] 58)
      have DO2 := Lib.hid (DO.out _ f4)
      rw [CV.out] at DO2
      clear E0 E1
      go_wp2_with fail
      (with_reducible refine DO2.out.mono ?_)
      intro e w5 hr
      obtain ⟨n, g, rfl, hq⟩ := L.out _ _ _ f4 hr
      have HQ := Lib.hid hq
      clear hr hq
      go_wp2
      exact HQ.out
    · have b1 : ((xown : Int) != (ses : Int)) = true := by simp; omega
      have FIN := Lib.hid (fun z hz => SAME.out 50 z (E1.out rfl ho) hz)
      have f3 := F2.out
      clear E0 E1 ho
      go_wp2
      exact FIN.out _ (by repeat (first | assumption | apply Frm.drew | apply Frm.alloc))
end Go.Proofs.YtcbpppdmkhpkkaaGreat
/- Contract of the law's acquire (of the document's State). -/
namespace Go.Proofs.YtcbpppdmkhpkkaaGreat
open Go.RowKit
set_option maxRecDepth 100000

def AcqEnd (w : World) (B q : Nat) (F : List Nat) (S : MS) (ses broker : Nat) (b : ByteArray) (e : Ending) (w' : World) : Prop := e = .returned (.tuple #[.int .u64 (acqR S ses broker b : Nat), .int .i64 (acqE S ses broker b : Nat)]) ∧ Ds w' B q F (acqS S ses broker b) ∧ Frm [q] w w' ∧ OthS q w w'
set_option maxHeartbeats 8000000 in
theorem owacq_any {w : World} {B q : Nat} {F : List Nat} {S : MS} (ses broker : Nat) (b : ByteArray) (h : Ds w B q F S) (hM : MOk S) (hF : ∀ x ∈ F, x < w.heap.size) (hs : ses < 18446744073709551616) (hbr : broker < 18446744073709551616) (hb : b.size ≤ 4000) :
    Calls Tryz.prog 10 #[.pointer (some ⟨q, 0, none⟩), .int .u64 (ses : Nat), .int .u64 (broker : Nat), .string b] w (AcqEnd w B q F S ses broker b) := by
  obtain ⟨Q, hQ⟩ : ∃ Q, Q = AcqEnd w B q F S ses broker b := ⟨_, rfl⟩
  have KEEP : Hid (∀ z, Frm [] w z → Ds z B q F S ∧ OthS q w z ∧ (∀ x ∈ F, x < z.heap.size)) := Lib.hid (fun z hz => ⟨h.keep hz (by simp) (by simp), OthS.frm hz h.plt, fun x hx => Nat.lt_of_lt_of_le (hF x hx) hz.size⟩)
  have SAME : Hid (∀ (c : Nat) z, acqE S ses broker b = c ∧ acqR S ses broker b = 0 ∧ acqS S ses broker b = S → Frm [] w z → Q (.returned (.tuple #[.int .u64 0, .int .i64 (c : Nat)])) z) := Lib.hid (fun c z hc hz => by
    rw [hQ]
    refine ⟨by rw [hc.1, hc.2.1]; rfl, by rw [hc.2.2]; exact (KEEP.out z hz).1, hz.weak (by simp), (KEEP.out z hz).2.1⟩)
  rw [← hQ]
  by_cases h0 : ses = 0
  · subst h0
    have FIN := Lib.hid (SAME.out 15 w (acq_zero S broker b) (Frm.refl _ _))
    clear h hM hF hQ
    go_enter Tryz.func10, Tryz.ntmps10
    go_wp2
    exact FIN.out
  have G : Hid _ := Lib.hid (ds_get (ownK b) h)
  have b0 : ((ses : Int) == 0) = false := by simp; omega
  by_cases his : isN S.nodes (ownK b) = true
  · rw [his] at G
    unfold ownK at G
    have FIN := Lib.hid (fun z hz => SAME.out 50 z (acq_is h0 his) hz)
    clear h hM hF hQ his
    go_enter Tryz.func10, Tryz.ntmps10
    go_wp2_with fail
    (with_reducible refine G.out.mono ?_)
    rintro e w2 ⟨x, _, rfl, hx, hf2⟩
    clear hx
    obtain ⟨⟨xk, xv, xver, xown⟩, xa, xc⟩ := x
    unfold Nx.val
    simp only
    go_wp2
    exact FIN.out _ (by repeat (first | assumption | apply Frm.drew | apply Frm.alloc))
  have his' : isN S.nodes (ownK b) = false := by simpa using his
  rw [his'] at G
  unfold ownK at G
  have M1 := hM.does (acqC1_ok (ses := ses) (broker := broker) hs hb)
  have V1 := Lib.hid (fun z => owvalue_any broker z hbr)
  have DO1 : Hid (∀ z a c, Frm [] w z → Bytes z a (be 8 broker) → (a = none → c = 0) → Calls Tryz.prog 14 #[.pointer (some ⟨q, 0, none⟩), cmdV (acqC1 ses broker b) a c] z (RdEnd z B q F S (acqC1 ses broker b))) := Lib.hid (fun z a c hz hb' hn' =>
    rdo_any (acqC1 ses broker b) a c (KEEP.out z hz).1 hM (acqC1_ok hs hb) (KEEP.out z hz).2.2 hb' hn')
  have CV1 : Hid (∀ a c, cmdV (acqC1 ses broker b) a c = .agg #[.int .u8 1, .string (⟨#[111, 119, 110, 47]⟩ ++ b), .slice a (be 8 broker).length c, .int .u64 0, .int .u64 (ses : Nat), .int .u64 0]) := Lib.hid (fun _ _ => rfl)
  have BAD : Hid (doE S (acqC1 ses broker b) ≠ 0 → ∀ z z', Frm [] w z → Ds z' B q F (doS S (acqC1 ses broker b)) → Frm [q] z z' → OthS q z z' → Q (.returned (.tuple #[.int .u64 0, .int .i64 (doE S (acqC1 ses broker b) : Nat)])) z') := Lib.hid (fun he z z' hz hd' hf' hot => by
    obtain ⟨e1, e2, e3⟩ := acq_bad h0 his' he
    rw [hQ]
    exact ⟨by rw [e1, e2]; rfl, by rw [e3]; exact hd', hz.trans hf' (by simp) (fun x hx => .inl hx), (KEEP.out z hz).2.1.trans hot⟩)
  have GOOD : Hid (doE S (acqC1 ses broker b) = 0 → ∀ z z' : World, Frm [] w z → Ds z B q F (doS S (acqC1 ses broker b)) → True) := Lib.hid (fun _ _ _ _ _ => trivial)
  have OKE : Hid (doE S (acqC1 ses broker b) = 0 → ∀ z' (m : Nat), Ds z' B q F (doS (doS S (acqC1 ses broker b)) (acqC2 (doS S (acqC1 ses broker b)) b)) → Frm [q] w z' → OthS q w z' → ((doE (doS S (acqC1 ses broker b)) (acqC2 (doS S (acqC1 ses broker b)) b) = 0 → m = acqN (doS S (acqC1 ses broker b)) b) ∧ (doE (doS S (acqC1 ses broker b)) (acqC2 (doS S (acqC1 ses broker b)) b) ≠ 0 → m = 0)) →
      Q (.returned (.tuple #[.int .u64 (m : Nat), .int .i64 (doE (doS S (acqC1 ses broker b)) (acqC2 (doS S (acqC1 ses broker b)) b) : Nat)])) z') := Lib.hid (fun he z' m hd' hf' hot hm => by
    obtain ⟨e1, e2, e3, e4⟩ := acq_ok h0 his' he
    rw [hQ]
    refine ⟨?_, by rw [e2]; exact hd', hf', hot⟩
    rw [e1] at e3 e4
    by_cases hc : doE (doS S (acqC1 ses broker b)) (acqC2 (doS S (acqC1 ses broker b)) b) = 0
    · rw [e1, e3 hc, hm.1 hc]
    · rw [e1, e4 hc, hm.2 hc])
  obtain ⟨e1, he1⟩ : ∃ e1, e1 = doE S (acqC1 ses broker b) := ⟨_, rfl⟩
  obtain ⟨S1, hS1⟩ : ∃ S1, S1 = doS S (acqC1 ses broker b) := ⟨_, rfl⟩
  rw [← hS1] at M1 BAD OKE
  rw [← he1] at BAD OKE
  have RDE : Hid (∀ z e z', RdEnd z B q F S (acqC1 ses broker b) e z' → ∃ n g, e = .returned (.tuple #[n, g, .int .i64 (e1 : Nat)]) ∧ Ds z' B q F S1 ∧ Frm [q] z z' ∧ OthS q z z') := Lib.hid (fun z e z' ⟨ga, gc, he, _, _, hd', hf', hot⟩ => ⟨_, _, by rw [he1]; exact he, by rw [hS1]; exact hd', hf', hot⟩)
  obtain ⟨C1, hC1⟩ : ∃ C1, C1 = acqC1 ses broker b := ⟨_, rfl⟩
  rw [← hC1] at DO1 CV1 RDE
  have M1H := Lib.hid M1
  have NQ := Lib.hid h.plt
  obtain ⟨n8, hn8⟩ : ∃ n8, n8 = (be 8 broker).length := ⟨_, rfl⟩
  have FF := Lib.hid hF
  clear h hM hF hQ his his' M1 he1 hS1 hC1 GOOD SAME
  go_enter Tryz.func10, Tryz.ntmps10
  go_wp2_with fail
  (with_reducible refine G.out.mono ?_)
  rintro e w2 ⟨x, _, rfl, hx, hf2⟩
  clear hx G
  obtain ⟨⟨xk, xv, xver, xown⟩, xa, xc⟩ := x
  unfold Nx.val
  simp only
  have f3 := hf2.alloc (.cells #[.string xk, .slice xa xv.length xc, .int .u64 (xver : Nat), .int .u64 (xown : Nat)] 58)
  obtain ⟨w3, hw3⟩ : ∃ w3, w3 = w2.alloc (.cells #[.string xk, .slice xa xv.length xc, .int .u64 (xver : Nat), .int .u64 (xown : Nat)] 58) := ⟨_, rfl⟩
  rw [← hw3] at f3
  have F3 := Lib.hid f3
  have HW3 := Lib.hid hw3
  clear hf2 f3 hw3
  go_wp2_with fail
  rw [← HW3.out]
  (with_reducible refine (V1.out _).mono ?_)
  rintro e w4 ⟨a4, c4, rfl, hb4, hn4, _, hf4⟩
  have F4 : Hid (Frm [] w w4) := Lib.hid (F3.out.trans hf4 (by simp) (by simp))
  have D1 := Lib.hid (DO1.out w4 a4 c4 F4.out hb4 hn4)
  rw [CV1.out] at D1
  clear hb4 hn4 hf4
  go_wp2_with fail
  (with_reducible refine D1.out.mono ?_)
  intro e w5 hr
  obtain ⟨nn, gg, rfl, hd5, hf5, ho5⟩ := RDE.out _ _ _ hr
  have D5 := Lib.hid hd5
  by_cases he0 : e1 = 0
  · have b1 : ((e1 : Int) != 0) = false := by simp [he0]
    have OKH := Lib.hid (OKE.out he0)
    have F5 : Hid (Frm [q] w w5) := Lib.hid (F4.out.trans hf5 (by simp) (fun x hx => .inl hx))
    have O5 : Hid (OthS q w w5) := Lib.hid ((KEEP.out w4 F4.out).2.1.trans ho5)
    have FF5 : Hid (∀ x ∈ F, x < w5.heap.size) := Lib.hid (fun x hx => Nat.lt_of_lt_of_le ((KEEP.out w4 F4.out).2.2 x hx) hf5.size)
    clear hr hd5 hf5 ho5 BAD OKE he0
    have G2 : Hid _ := Lib.hid (ds_get (epK b) D5.out)
    have EV := Lib.hid (getN_ver M1H.out (epK b))
    have CV2 : Hid (∀ a c, cmdV (acqC2 S1 b) a c = .agg #[.int .u8 1, .string (⟨#[101, 112, 111, 99, 104, 47]⟩ ++ b), .slice a (be 8 (acqN S1 b)).length c, .int .u64 ((getN S1.nodes (epK b)).ver : Nat), .int .u64 0, .int .u64 0]) := Lib.hid (fun _ _ => rfl)
    have DO2 : Hid (∀ z a c, Frm [] w5 z → Bytes z a (be 8 (acqN S1 b)) → (a = none → c = 0) → Calls Tryz.prog 14 #[.pointer (some ⟨q, 0, none⟩), cmdV (acqC2 S1 b) a c] z (RdEnd z B q F S1 (acqC2 S1 b))) := Lib.hid (fun z a c hz hb' hn' =>
      rdo_any (acqC2 S1 b) a c (D5.out.keep hz (by simp) (by simp)) M1H.out (acqC2_ok M1H.out hb) (fun x hx => Nat.lt_of_lt_of_le (FF5.out x hx) hz.size) hb' hn')
    have AN : Hid (acqN S1 b = (numB (getN S1.nodes (epK b)).v + 1) % 18446744073709551616) := Lib.hid rfl
    have anl : acqN S1 b < 18446744073709551616 := by rw [AN.out]; exact Nat.mod_lt _ (by decide)
    obtain ⟨d, hd⟩ : ∃ d, d = getN S1.nodes (epK b) := ⟨_, rfl⟩
    rw [← hd] at G2 EV CV2 AN
    obtain ⟨bx, hbx⟩ : ∃ bx, bx = isN S1.nodes (epK b) := ⟨_, rfl⟩
    rw [← hbx] at G2
    unfold epK at G2
    obtain ⟨N, hN⟩ : ∃ N, N = acqN S1 b := ⟨_, rfl⟩
    rw [← hN] at CV2 DO2 AN anl OKH
    obtain ⟨E2, hE2⟩ : ∃ E2, E2 = doE S1 (acqC2 S1 b) := ⟨_, rfl⟩
    obtain ⟨S2, hS2⟩ : ∃ S2, S2 = doS S1 (acqC2 S1 b) := ⟨_, rfl⟩
    rw [← hE2, ← hS2] at OKH
    have RDE2 : Hid (∀ z e z', RdEnd z B q F S1 (acqC2 S1 b) e z' → ∃ n g, e = .returned (.tuple #[n, g, .int .i64 (E2 : Nat)]) ∧ Ds z' B q F S2 ∧ Frm [q] z z' ∧ OthS q z z') := Lib.hid (fun z e z' ⟨ga, gc, he, _, _, hd', hf', hot⟩ => ⟨_, _, by rw [hE2]; exact he, by rw [hS2]; exact hd', hf', hot⟩)
    obtain ⟨C2, hC2⟩ : ∃ C2, C2 = acqC2 S1 b := ⟨_, rfl⟩
    rw [← hC2] at DO2 CV2 RDE2
    have V2 := Lib.hid (fun z => owvalue_any N z anl)
    have O55 : Hid (∀ z, Frm [] w5 z → OthS q w5 z) := Lib.hid (fun z hz => OthS.frm hz D5.out.plt)
    have QL := Lib.hid D5.out.plt
    clear hd hbx hN hE2 hS2 hC2
    go_wp2_with fail
    (with_reducible refine G2.out.mono ?_)
    rintro e w6 ⟨x, rfl, rfl, hx, hf6⟩
    have X6 := Lib.hid hx
    clear hx G2
    obtain ⟨⟨yk, yv, yver, yown⟩, ya, yc⟩ := x
    unfold Nx.val
    simp only
    obtain ⟨y, hy⟩ : ∃ y, y = w6.heap.size := ⟨_, rfl⟩
    obtain ⟨w7, hw7⟩ : ∃ w7, w7 = w6.alloc (.cells #[.string yk, .slice ya yv.length yc, .int .u64 (yver : Nat), .int .u64 (yown : Nat)] 58) := ⟨_, rfl⟩
    have f67 : Frm [] w6 w7 := by rw [hw7]; exact (Frm.refl _ _).alloc _
    have F7 : Hid (Frm [] w5 w7) := Lib.hid (hf6.trans f67 (by simp) (by simp))
    have B7 : Hid (Whole w7 y 58 #[.string yk, .slice ya yv.length yc, .int .u64 (yver : Nat), .int .u64 (yown : Nat)]) := Lib.hid (by rw [hw7, hy]; exact Whole.made _ _ _)
    have YQ : Hid (y ≠ q) := Lib.hid (by have := QL.out; have := hf6.size; omega)
    have NUM := Lib.hid (ownumber_any ya yv.length yc yv w7 (f67.bytes X6.out.bytes (by simp)) rfl)
    have HY := Lib.hid hy
    have HW7 := Lib.hid hw7
    clear hf6 f67 hy hw7
    obtain ⟨M, hM⟩ : ∃ M, M = numB yv := ⟨_, rfl⟩
    rw [← hM] at NUM AN
    have mlt : M < 18446744073709551616 := by rw [hM]; exact numB_lt X6.out.bytes.1
    have n1 : IntKind.u64.wrap ((M : Int) + 1) = (N : Int) := by rw [AN.out, IntKind.wrap_u64]; omega
    have nl6 : ¬ 9223372036854775807 < 6 + b.size := by omega
    clear hM
    go_wp2_with fail
    rw [← HY.out, ← HW7.out]
    (with_reducible refine NUM.out.mono ?_)
    rintro e w8 ⟨rfl, hf8⟩
    have F8 : Hid (Frm [] w5 w8) := Lib.hid (F7.out.trans hf8 (by simp) (by simp))
    have b8 := hf8.whole B7.out (by simp)
    have r2 : ∀ z, Frm [q] w8 z → z.cell? ⟨y, 2, none⟩ = some (.int .u64 (yver : Nat)) := fun z hz => (hz.whole b8 (by simp; exact YQ.out)).cell 2
    clear hf8
    go_wp2
    refine wp_region_held_drew (S := fun w' => Frm [q] w8 w') (by kernel_rfl) (Frm.drew (Frm.refl _ _)) (fun hHeld => ?_)
    refine wpAnyH_take (i := 0) (oi := ⟨some 62, _, _, _, _, _⟩) (v := ?_) rfl (by kernel_rfl) (by kernel_rfl) (by kernel_rfl) (fun _ _ _ h => h) (Or.inl ⟨by rfl, ?_⟩) (by assumption) ?_
    rotate_left 1
    · (intro w hSw; (try dsimp only at hSw); go_simp; all_goals with_reducible rfl)
    try simp only [Act.put, List.setIfInBounds_toArray, List.set_cons_zero, List.set_cons_succ]
    refine wpAnyH_take (i := 1) (oi := ⟨some 63, _, _, _, _, _⟩) (v := ?_) rfl (by kernel_rfl) (by kernel_rfl) (by kernel_rfl) (fun _ _ _ h => h) (Or.inl ⟨by rfl, ?_⟩) (by assumption) ?_
    rotate_left 1
    · (intro w hSw; (try dsimp only at hSw); go_simp; all_goals with_reducible rfl)
    try simp only [Act.put, List.setIfInBounds_toArray, List.set_cons_zero, List.set_cons_succ]
    refine wpAnyH_take (i := 2) (oi := ⟨some 64, _, _, _, _, _⟩) (v := ?_) rfl (by kernel_rfl) (by kernel_rfl) (by kernel_rfl) (fun _ _ _ h => h) (Or.inl ⟨by rfl, ?_⟩) (by assumption) ?_
    rotate_left 1
    · (intro w hSw; (try dsimp only at hSw); go_simp; all_goals with_reducible rfl)
    try simp only [Act.put, List.setIfInBounds_toArray, List.set_cons_zero, List.set_cons_succ]
    refine wpAnyH_take (i := 3) (oi := ⟨some 65, _, _, _, _, _⟩) (v := ?_) rfl (by kernel_rfl) (by kernel_rfl) (by kernel_rfl) (fun _ _ _ h => h) (Or.inl ⟨by rfl, ?_⟩) (by assumption) ?_
    rotate_left 1
    · (intro w hSw; (try dsimp only at hSw); go_simp; all_goals with_reducible rfl)
    try simp only [Act.put, List.setIfInBounds_toArray, List.set_cons_zero, List.set_cons_succ]
    refine wpAnyH_take (i := 5) (oi := ⟨some 67, _, _, _, _, _⟩) (v := ?_) rfl (by kernel_rfl) (by kernel_rfl) (by kernel_rfl) (fun _ _ _ h => h) (Or.inl ⟨by rfl, ?_⟩) (by assumption) ?_
    rotate_left 1
    · (intro w hSw; (try dsimp only at hSw); go_simp; all_goals with_reducible rfl)
    try simp only [Act.put, List.setIfInBounds_toArray, List.set_cons_zero, List.set_cons_succ]
    refine wpAnyH_take (i := 6) (oi := ⟨some 68, _, _, _, _, _⟩) (v := ?_) rfl (by kernel_rfl) (by kernel_rfl) (by kernel_rfl) (fun _ _ _ h => h) (Or.inl ⟨by rfl, ?_⟩) (by assumption) ?_
    rotate_left 1
    · (intro w hSw; (try dsimp only at hSw); go_simp; all_goals with_reducible rfl)
    try simp only [Act.put, List.setIfInBounds_toArray, List.set_cons_zero, List.set_cons_succ]
    refine wpAnyH_ready (rs := [4]) (by kernel_rfl) (by simp) ?_
    refine AllReadyH.cons (o := ⟨some 66, _, _, _, _, _⟩) rfl (fun K hK => ?_) AllReadyH.nil
    go_simp
    ((with_reducible refine (V2.out _).mono ?_); rintro e w9 ⟨a9, c9, rfl, hb9, hn9, _, hf9⟩; have g9 : Frm [] w8 w9 := (Frm.drew (Frm.refl [] w8)).trans hf9 (by simp) (by simp); have h9 : Frm [q] w8 w9 := g9.weak (by simp); have D9 := Lib.hid (DO2.out w9 a9 c9 (F8.out.trans g9 (by simp) (by simp)) hb9 hn9); rw [CV2.out] at D9; have G9 := Lib.hid g9; clear hb9 hn9 hf9 g9)
    go_wp2_with fail
    refine hK.out _ _ (by assumption) (fun hHeld => ?_)
    clear hK K
    try simp only [Act.put, List.setIfInBounds_toArray, List.set_cons_zero, List.set_cons_succ]
    refine wpAnyH_take (i := 7) (oi := ⟨some 69, _, _, _, _, _⟩) (v := ?_) rfl (by kernel_rfl) (by kernel_rfl) (by kernel_rfl) (fun _ _ _ h => h) (Or.inl ⟨by rfl, ?_⟩) (by assumption) ?_
    rotate_left 1
    · (intro w hSw; (try dsimp only at hSw); go_simp; all_goals with_reducible rfl)
    try simp only [Act.put, List.setIfInBounds_toArray, List.set_cons_zero, List.set_cons_succ]
    refine wpAnyH_ready (rs := [8]) (by kernel_rfl) (by simp) ?_
    refine AllReadyH.cons (o := ⟨some 70, _, _, _, _, _⟩) rfl (fun K hK => ?_) AllReadyH.nil
    go_simp
    ((with_reducible refine D9.out.mono ?_); intro e w10 hr; obtain ⟨n2, g2, rfl, hd10, hf10, ho10⟩ := RDE2.out _ _ _ hr; have D10 := Lib.hid hd10; have h10 : Frm [q] w8 w10 := h9.trans hf10 (fun x hx => hx) (fun x hx => .inl hx); have O10 : Hid (OthS q w w10) := Lib.hid ((O5.out.trans (O55.out _ (F8.out.trans G9.out (by simp) (by simp)))).trans ho10); clear hr hd10 hf10 ho10)
    go_wp2_with fail
    refine hK.out _ _ (by assumption) (fun hHeld => ?_)
    clear hK K
    try simp only [Act.put, List.setIfInBounds_toArray, List.set_cons_zero, List.set_cons_succ]
    refine wpAnyH_take (i := 9) (oi := ⟨some 61, _, _, _, _, _⟩) (v := ?_) rfl (by kernel_rfl) (by kernel_rfl) (by kernel_rfl) (fun _ _ _ h => h) (Or.inl ⟨by rfl, ?_⟩) (by assumption) ?_
    rotate_left 1
    · (intro w hSw; (try dsimp only at hSw); go_simp; all_goals with_reducible rfl)
    try simp only [Act.put, List.setIfInBounds_toArray, List.set_cons_zero, List.set_cons_succ]
    refine wpAnyH_take (i := 10) (oi := ⟨some 71, _, _, _, _, _⟩) (v := ?_) rfl (by kernel_rfl) (by kernel_rfl) (by kernel_rfl) (fun _ _ _ h => h) (Or.inl ⟨by rfl, ?_⟩) (by assumption) ?_
    rotate_left 1
    · (intro w hSw; (try dsimp only at hSw); go_simp; all_goals with_reducible rfl)
    try simp only [Act.put, List.setIfInBounds_toArray, List.set_cons_zero, List.set_cons_succ]
    refine wpAnyH_take (i := 11) (oi := ⟨some 72, _, _, _, _, _⟩) (v := ?_) rfl (by kernel_rfl) (by kernel_rfl) (by kernel_rfl) (fun _ _ _ h => h) (Or.inl ⟨by rfl, ?_⟩) (by assumption) ?_
    rotate_left 1
    · (intro w hSw; (try dsimp only at hSw); go_simp; all_goals with_reducible rfl)
    try simp only [Act.put, List.setIfInBounds_toArray, List.set_cons_zero, List.set_cons_succ]
    refine wpAnyH_take (i := 12) (oi := ⟨some 73, _, _, _, _, _⟩) (v := ?_) rfl (by kernel_rfl) (by kernel_rfl) (by kernel_rfl) (fun _ _ _ h => h) (Or.inl ⟨by rfl, ?_⟩) (by assumption) ?_
    rotate_left 1
    · (intro w hSw; (try dsimp only at hSw); go_simp; all_goals with_reducible rfl)
    try simp only [Act.put, List.setIfInBounds_toArray, List.set_cons_zero, List.set_cons_succ]
    refine wpAnyH_take (i := 13) (oi := ⟨some 18, _, _, _, _, _⟩) (v := ?_) rfl (by kernel_rfl) (by kernel_rfl) (by kernel_rfl) (fun _ _ _ h => h) (Or.inl ⟨by rfl, ?_⟩) (by assumption) ?_
    rotate_left 1
    · (intro w hSw; (try dsimp only at hSw); go_simp; all_goals with_reducible rfl)
    try simp only [Act.put, List.setIfInBounds_toArray, List.set_cons_zero, List.set_cons_succ]
    refine wpAnyH_take (i := 14) (oi := ⟨some 19, _, _, _, _, _⟩) (v := ?_) rfl (by kernel_rfl) (by kernel_rfl) (by kernel_rfl) (fun _ _ _ h => h) (Or.inl ⟨by rfl, ?_⟩) (by assumption) ?_
    rotate_left 1
    · (intro w hSw; (try dsimp only at hSw); go_simp; all_goals with_reducible rfl)
    try simp only [Act.put, List.setIfInBounds_toArray, List.set_cons_zero, List.set_cons_succ]
    refine wpAnyH_take (i := 15) (oi := ⟨some 20, _, _, _, _, _⟩) (v := ?_) rfl (by kernel_rfl) (by kernel_rfl) (by kernel_rfl) (fun _ _ _ h => h) (Or.inl ⟨by rfl, ?_⟩) (by assumption) ?_
    rotate_left 1
    · (intro w hSw; (try dsimp only at hSw); go_simp; all_goals with_reducible rfl)
    try simp only [Act.put, List.setIfInBounds_toArray, List.set_cons_zero, List.set_cons_succ]
    refine wpAnyH_done (by kernel_rfl) ?_ _
    have F10 : Hid (Frm [q] w w10) := Lib.hid ((F5.out.trans F8.out (U := [q]) (fun x hx => hx) (by simp)).trans h10 (fun x hx => hx) (fun x hx => .inl hx))
    by_cases hE0 : E2 = 0
    · have b2 : ((E2 : Int) != 0) = false := by simp [hE0]
      have FIN := Lib.hid (OKH.out w10 N D10.out F10.out O10.out ⟨fun _ => rfl, fun h => absurd hE0 h⟩)
      subst hE0
      go_wp2
      exact FIN.out
    · have b2 : ((E2 : Int) != 0) = true := by simp [hE0]
      have FIN := Lib.hid (OKH.out w10 0 D10.out F10.out O10.out ⟨fun h => absurd h hE0, fun _ => rfl⟩)
      clear hE0
      go_wp2
      exact FIN.out
  · have b1 : ((e1 : Int) != 0) = true := by simp [he0]
    have FIN := Lib.hid (BAD.out he0 w4 w5 F4.out hd5 hf5 ho5)
    clear hr hd5 hf5 ho5 BAD OKE he0
    go_wp2
    exact FIN.out
end Go.Proofs.YtcbpppdmkhpkkaaGreat
/- More blocks that a State lies outside of. -/
namespace Go.Proofs.YtcbpppdmkhpkkaaGreat
open Go.RowKit
set_option maxRecDepth 100000
theorem Ds.more {w w0 : World} {B q : Nat} {F F' : List Nat} {S : MS} (h : Ds w B q F S) (hf : Frm [] w w0) (hF : ∀ x ∈ F', x ∈ F ∨ w.heap.size ≤ x) : Ds w0 B q F' S := by
  obtain ⟨a, c, X, ht, ha⟩ := h.tree
  obtain ⟨a2, c2, hb⟩ := h.book
  have hc : ∀ x ∈ q :: F', x ∈ q :: F ∨ w.heap.size ≤ x := fun x hx => by
    rcases List.mem_cons.1 hx with rfl | hx
    · exact .inl (by simp)
    · exact (hF x hx).imp (fun h => by simp [h]) (fun h => h)
  have ho : q ∉ F' := fun hm => by
    rcases hF q hm with h1 | h1
    · exact h.out h1
    · have := h.plt; omega
  exact ⟨(hf.cell (p := ⟨q, 0, none⟩) h.plt (by simp)).trans h.n0, ⟨a, c, X, ⟨(hf.cell (p := ⟨q, 1, none⟩) h.plt (by simp)).trans ht.c0, fun j => (hf.frozen (p := ⟨q, j, none⟩) h.plt (by simp)).trans (ht.free j), ht.row.keep hf (by simp) hc, ht.hp, ho, ht.few⟩, ha⟩, a2, c2, ⟨(hf.cell (p := ⟨q, 2, none⟩) h.plt (by simp)).trans hb.c0, (hf.cell (p := ⟨q, 3, none⟩) h.plt (by simp)).trans hb.c1, fun j => (hf.frozen (p := ⟨q, j, none⟩) h.plt (by simp)).trans (hb.free j), hb.row.keep hf (by simp) hc, hb.hp, ho, hb.few, hb.lt⟩⟩
end Go.Proofs.YtcbpppdmkhpkkaaGreat
/- The program's keeper and the document's State side by side (Tq), through owners' calls of both. -/
namespace Go.Proofs.YtcbpppdmkhpkkaaGreat
open Go.RowKit
set_option maxRecDepth 100000

/-- Since w0 a keeper at k with the state S, the document's State at q with the state T; versions up to m, at most n bytes on the disk; nothing of both in Z. -/
def Tq (w0 w : World) (Z : List Nat) (k q : Nat) (S T : MS) (room m n : Nat) : Prop :=
  ∃ jq dp Fd l, Kp w w0.heap.size (q :: Z) k jq dp Fd S l room ∧ Ds w w0.heap.size q (k :: (Fd ++ Z)) T ∧ Frm [] w0 w ∧ MOk S ∧ MVer m S ∧ MOk T ∧ l.length ≤ n ∧ ∀ x ∈ Z, x < w.heap.size
section
variable {w0 w w' : World} {Z Z' : List Nat} {k q : Nat} {S S' T T' : MS} {room m n : Nat}
theorem Tq.frm (h : Tq w0 w Z k q S T room m n) : Frm [] w0 w := by obtain ⟨_, _, _, _, _, _, h3, _⟩ := h; exact h3
theorem Tq.ok (h : Tq w0 w Z k q S T room m n) : MOk S ∧ MOk T := by obtain ⟨_, _, _, _, _, _, _, h4, _, h6, _⟩ := h; exact ⟨h4, h6⟩
theorem Tq.qlt (h : Tq w0 w Z k q S T room m n) : q < w.heap.size := by obtain ⟨_, _, _, _, _, h2, _⟩ := h; exact h2.plt
theorem Tq.zlt (h : Tq w0 w Z k q S T room m n) : ∀ x ∈ Z, x < w.heap.size := by obtain ⟨_, _, _, _, _, _, _, _, _, _, _, h8⟩ := h; exact h8
theorem Tq.more {m' n' : Nat} (h : Tq w0 w Z k q S T room m n) (hm : m ≤ m') (hn : n ≤ n') : Tq w0 w Z k q S T room m' n' := by
  obtain ⟨jq, dp, Fd, l, h1, h2, h3, h4, h5, h6, h7, h8⟩ := h
  exact ⟨jq, dp, Fd, l, h1, h2, h3, h4, h5.up hm, h6, by omega, h8⟩
theorem Tq.here (h : Tq w0 w Z k q S T room m n) (hf : Frm [] w w') (hZ : ∀ x ∈ Z', x ∈ Z ∨ w.heap.size ≤ x) (hZl : ∀ x ∈ Z', x < w'.heap.size) : Tq w0 w' Z' k q S T room m n := by
  obtain ⟨jq, dp, Fd, l, h1, h2, h3, h4, h5, h6, h7, h8⟩ := h
  refine ⟨jq, dp, Fd, l, h1.keep hf (by simp) (fun x hx => ?_), h2.more hf (fun x hx => ?_), h3.trans hf (by simp) (by simp), h4, h5, h6, h7, hZl⟩
  · rcases List.mem_cons.1 hx with rfl | hx
    · exact .inl (by simp)
    · exact (hZ x hx).imp (fun h => by simp [h]) id
  · simp only [List.mem_cons, List.mem_append] at hx ⊢
    rcases hx with h | h | h
    · exact .inl (.inl h)
    · exact .inl (.inr (.inl h))
    · exact (hZ x h).imp (fun h => .inr (.inr h)) id
theorem Tq.same (h : Tq w0 w Z k q S T room m n) (hf : Frm [] w w') : Tq w0 w' Z k q S T room m n :=
  h.here hf (fun _ hx => .inl hx) (fun x hx => Nat.lt_of_lt_of_le (h.zlt x hx) hf.size)
/-- A cell of a block in Z is turned. -/
theorem Tq.store {g : Nat} (h : Tq w0 w Z k q S T room m n) (hf : Frm [g] w w') (hg : g ∈ Z) (hB : w0.heap.size ≤ g) : Tq w0 w' Z k q S T room m n := by
  obtain ⟨jq, dp, Fd, l, h1, h2, h3, h4, h5, h6, h7, h8⟩ := h
  have ho : q ≠ g := fun e => h2.out (by rw [e]; simp [hg])
  refine ⟨jq, dp, Fd, l, h1.keep hf (fun x hx => .inl (by simp at hx; simp [hx, hg])) (fun x hx => .inl hx), h2.keep hf (by simpa using ho) (fun x hx => .inl (by simp at hx; simp [hx, hg])), h3.trans hf (by simp) (fun x hx => .inr (by simp at hx; omega)), h4, h5, h6, h7, fun x hx => Nat.lt_of_lt_of_le (h8 x hx) hf.size⟩
/-- What a call of the program leaves. -/
theorem Tq.toP {jq dp : Nat} {Fd l : List Nat} {a m' : Nat} (h1 : Kp w w0.heap.size (q :: Z) k jq dp Fd S l room) (h2 : Ds w w0.heap.size q (k :: (Fd ++ Z)) T) (h3 : Frm [] w0 w) (h6 : MOk T) (h7 : l.length ≤ n) (h8 : ∀ x ∈ Z, x < w.heap.size) (hM : MOk S') (hV : MVer m' S') (t : KpTo w w0.heap.size (q :: Z) k jq dp Fd S l room S' a w') : Tq w0 w' Z k q S' T room m' (n + a) ∧ ZKeep Z w w' := by
  obtain ⟨Fd', l', k1, f1, x1, l1, _⟩ := t
  have q1 := kp_pos h1
  have hq : q ∉ k :: Fd := fun hm => (q1 q hm).1 (by simp)
  have d1 : Ds w w0.heap.size q (k :: (Fd ++ (Fd' ++ Z))) T := h2.more (Frm.refl _ _) (fun x hx => by
    simp only [List.mem_cons, List.mem_append] at hx ⊢
    rcases hx with h | h | h | h
    · exact .inl (.inl h)
    · exact .inl (.inr (.inl h))
    · exact (x1 x h).imp (fun h => .inr (.inl h)) id
    · exact .inl (.inr (.inr h)))
  have d2 := d1.keep f1 hq (fun x hx => .inl (by simp only [List.mem_cons, List.mem_append] at hx ⊢; rcases hx with h | h; exact .inr (.inl h); exact .inr (.inr (.inl h))))
  have d3 : Ds w' w0.heap.size q (k :: (Fd' ++ Z)) T := d2.more (Frm.refl _ _) (fun x hx => .inl (by
    simp only [List.mem_cons, List.mem_append] at hx ⊢
    rcases hx with h | h | h
    · exact .inl h
    · exact .inr (.inr (.inl h))
    · exact .inr (.inr (.inr h))))
  exact ⟨⟨jq, dp, Fd', l', k1, d3, h3.trans f1 (by simp) (fun x hx => .inr (q1 x hx).2.1), hM, hV, h6, by omega, fun x hx => Nat.lt_of_lt_of_le (h8 x hx) f1.size⟩, ZKeep.of f1 (fun x hx hz => (q1 x hx).1 (by simp [hz]))⟩
/-- What a call of the document's leaves. -/
theorem Tq.toR {jq dp : Nat} {Fd l : List Nat} (h1 : Kp w w0.heap.size (q :: Z) k jq dp Fd S l room) (h3 : Frm [] w0 w) (h4 : MOk S) (h5 : MVer m S) (h7 : l.length ≤ n) (h8 : ∀ x ∈ Z, x < w.heap.size) (hM : MOk T') (hd : Ds w' w0.heap.size q (k :: (Fd ++ Z)) T') (hf : Frm [q] w w') : Tq w0 w' Z k q S T' room m n ∧ ZKeep Z w w' :=
  ⟨⟨jq, dp, Fd, l, h1.keep hf (fun x hx => .inl (by simp at hx; simp [hx])) (fun x hx => .inl hx), hd, h3.trans hf (by simp) (fun x hx => .inr (by simp at hx; subst hx; exact hd.hp)), h4, h5, hM, h7, fun x hx => Nat.lt_of_lt_of_le (h8 x hx) hf.size⟩, ZKeep.of hf (fun x hx hz => by simp at hx; subst hx; exact hd.out (by simp [hz]))⟩
theorem tq_lts {jq dp : Nat} {Fd l : List Nat} (h1 : Kp w w0.heap.size (q :: Z) k jq dp Fd S l room) (h2 : Ds w w0.heap.size q (k :: (Fd ++ Z)) T) (h8 : ∀ x ∈ Z, x < w.heap.size) : (∀ x ∈ q :: Z, x < w.heap.size) ∧ ∀ x ∈ k :: (Fd ++ Z), x < w.heap.size := by
  refine ⟨fun x hx => ?_, fun x hx => ?_⟩
  · rcases List.mem_cons.1 hx with rfl | hx
    · exact h2.plt
    · exact h8 x hx
  · simp only [List.mem_cons, List.mem_append] at hx
    rcases hx with h | h | h
    · exact h1.klt x (by simp [h])
    · exact h1.klt x (by simp [h])
    · exact h8 x h
theorem tq_pdo (c : MC) (a : Option Addr) (cap : Nat) (h : Tq w0 w Z k q S T room m n) (hm : m < 18446744073709551615) (hc : MCOk c) (hb : Bytes w a c.val) (hnil : a = none → cap = 0) (hk : c.kind ≠ 7) (hl : c.key.size + c.val.length ≤ 4000) (hr : n + 5000 ≤ room) :
    Calls Tryz.prog 13 #[.pointer (some ⟨k, 0, none⟩), cmdV c a cap] w fun e w' => ∃ (r : Nat) (ga : Option Addr) (gn gc : Nat), e = .returned (.tuple #[.int .u64 (r : Nat), .slice ga gn gc, .int .i64 (doE S c : Nat)]) ∧ Tq w0 w' Z k q (doS S c) T room (m + 1) (n + 4104) ∧ ZKeep Z w w' := by
  obtain ⟨jq, dp, Fd, l, h1, h2, h3, h4, h5, h6, h7, h8⟩ := h
  refine (kdo_to c a cap h1 h4 h5 hc (tq_lts h1 h2 h8).1 hb hnil hk hl (by omega)).mono ?_
  rintro e w' ⟨r, ga, gn, gc, he, _, t⟩
  exact ⟨r, ga, gn, gc, he, Tq.toP h1 h2 h3 h6 h7 h8 (h4.does hc) (h5.does hm) t⟩
theorem tq_rdo (c : MC) (a : Option Addr) (cap : Nat) (h : Tq w0 w Z k q S T room m n) (hc : MCOk c) (hb : Bytes w a c.val) (hnil : a = none → cap = 0) :
    Calls Tryz.prog 14 #[.pointer (some ⟨q, 0, none⟩), cmdV c a cap] w fun e w' => ∃ (r : Nat) (ga : Option Addr) (gn gc : Nat), e = .returned (.tuple #[.int .u64 (r : Nat), .slice ga gn gc, .int .i64 (doE T c : Nat)]) ∧ Tq w0 w' Z k q S (doS T c) room m n ∧ ZKeep Z w w' := by
  obtain ⟨jq, dp, Fd, l, h1, h2, h3, h4, h5, h6, h7, h8⟩ := h
  refine (rdo_any c a cap h2 h6 hc (tq_lts h1 h2 h8).2 hb hnil).mono ?_
  rintro e w' ⟨ga, gc, he, _, _, hd, hf, _⟩
  exact ⟨_, ga, _, gc, he, Tq.toR h1 h3 h4 h5 h7 h8 (h6.does hc) hd hf⟩
theorem tq_pacq (ses br : Nat) (b : ByteArray) (h : Tq w0 w Z k q S T room m n) (hm : m + 2 < 18446744073709551615) (hs : ses < 18446744073709551616) (hbr : br < 18446744073709551616) (hb : b.size ≤ 2900) (hr : n + 10000 ≤ room) :
    Calls Tryz.prog 9 #[.pointer (some ⟨k, 0, none⟩), .int .u64 (ses : Nat), .int .u64 (br : Nat), .string b] w fun e w' => e = .returned (.tuple #[.int .u64 (acqR S ses br b : Nat), .int .i64 (acqE S ses br b : Nat)]) ∧ Tq w0 w' Z k q (acqS S ses br b) T room (m + 2) (n + 8208) ∧ ZKeep Z w w' := by
  obtain ⟨jq, dp, Fd, l, h1, h2, h3, h4, h5, h6, h7, h8⟩ := h
  refine (owpacq_any ses br b h1 h4 h5 (by omega) (tq_lts h1 h2 h8).1 hs hbr hb (by omega)).mono ?_
  rintro e w' ⟨he, t⟩
  exact ⟨he, Tq.toP h1 h2 h3 h6 h7 h8 (acqS_ok h4 hs (by omega)) (acqS_ver h5 (by omega)) t⟩
theorem tq_racq (ses br : Nat) (b : ByteArray) (h : Tq w0 w Z k q S T room m n) (hs : ses < 18446744073709551616) (hbr : br < 18446744073709551616) (hb : b.size ≤ 2900) :
    Calls Tryz.prog 10 #[.pointer (some ⟨q, 0, none⟩), .int .u64 (ses : Nat), .int .u64 (br : Nat), .string b] w fun e w' => e = .returned (.tuple #[.int .u64 (acqR T ses br b : Nat), .int .i64 (acqE T ses br b : Nat)]) ∧ Tq w0 w' Z k q S (acqS T ses br b) room m n ∧ ZKeep Z w w' := by
  obtain ⟨jq, dp, Fd, l, h1, h2, h3, h4, h5, h6, h7, h8⟩ := h
  refine (owacq_any ses br b h2 h6 (tq_lts h1 h2 h8).2 hs hbr (by omega)).mono ?_
  rintro e w' ⟨he, hd, hf, _⟩
  exact ⟨he, Tq.toR h1 h3 h4 h5 h7 h8 (acqS_ok h6 hs (by omega)) hd hf⟩
theorem tq_prel (ses : Nat) (b : ByteArray) (h : Tq w0 w Z k q S T room m n) (hs : ses < 18446744073709551616) (hb : b.size ≤ 2900) (hr : n + 10000 ≤ room) :
    Calls Tryz.prog 11 #[.pointer (some ⟨k, 0, none⟩), .int .u64 (ses : Nat), .string b] w fun e w' => e = .returned (.int .i64 (relE S ses b : Nat)) ∧ Tq w0 w' Z k q (relS S ses b) T room m (n + 4104) ∧ ZKeep Z w w' := by
  obtain ⟨jq, dp, Fd, l, h1, h2, h3, h4, h5, h6, h7, h8⟩ := h
  refine (owprel_any ses b h1 h4 h5 (tq_lts h1 h2 h8).1 hs hb (by omega)).mono ?_
  rintro e w' ⟨he, t⟩
  exact ⟨he, Tq.toP h1 h2 h3 h6 h7 h8 (relS_ok h4 (by omega)) (relS_ver h5) t⟩
theorem tq_rrel (ses : Nat) (b : ByteArray) (h : Tq w0 w Z k q S T room m n) (hs : ses < 18446744073709551616) (hb : b.size ≤ 2900) :
    Calls Tryz.prog 12 #[.pointer (some ⟨q, 0, none⟩), .int .u64 (ses : Nat), .string b] w fun e w' => e = .returned (.int .i64 (relE T ses b : Nat)) ∧ Tq w0 w' Z k q S (relS T ses b) room m n ∧ ZKeep Z w w' := by
  obtain ⟨jq, dp, Fd, l, h1, h2, h3, h4, h5, h6, h7, h8⟩ := h
  refine (owrel_any ses b h2 h6 (tq_lts h1 h2 h8).2 hs (by omega)).mono ?_
  rintro e w' ⟨he, hd, hf, _⟩
  exact ⟨he, Tq.toR h1 h3 h4 h5 h7 h8 (relS_ok h6 (by omega)) hd hf⟩
theorem tq_hld (b : ByteArray) (h : Tq w0 w Z k q S T room m n) (hb : b.size ≤ 2900) :
    Calls Tryz.prog 15 #[.pointer (some ⟨k, 0, none⟩), .string b] w fun e w' => e = .returned (hldV S b) ∧ Frm [] w w' := by
  obtain ⟨jq, dp, Fd, l, h1, h2, h3, h4, h5, h6, h7, h8⟩ := h
  exact owphld_any b h1 h4 hb
theorem tq_get (s : ByteArray) (h : Tq w0 w Z k q S T room m n) :
    Calls Tryz.prog 16 #[.pointer (some ⟨q, 1, none⟩), .string s] w fun e w' => ∃ a c, e = .returned (.tuple #[.agg #[.string (getN T.nodes s).k, .slice a (getN T.nodes s).v.length c, .int .u64 ((getN T.nodes s).ver : Nat), .int .u64 ((getN T.nodes s).own : Nat)], .bool (isN T.nodes s)]) ∧ Bytes w' a (getN T.nodes s).v ∧ Frm [] w w' := by
  obtain ⟨jq, dp, Fd, l, h1, h2, h3, h4, h5, h6, h7, h8⟩ := h
  refine (ds_get s h2).mono ?_
  rintro e w' ⟨⟨t, a, c⟩, ht, rfl, hok, hf⟩
  simp only at ht
  subst ht
  exact ⟨a, c, rfl, hok.bytes, hf⟩
theorem tq_plist (h : Tq w0 w Z k q S T room m n) : Calls Tryz.prog 19 #[.pointer (some ⟨k, 0, none⟩), .string ⟨#[]⟩] w fun e w' => ∃ a' c' Y, nds Y = S.nodes ∧ e = .returned (.slice a' Y.length c') ∧ NL w' [] a' Y ∧ Frm [] w w' := by
  obtain ⟨jq, dp, Fd, l, h1, h2, h3, h4, h5, h6, h7, h8⟩ := h
  refine (klist_any ⟨#[]⟩ h1 h4.good (tq_lts h1 h2 h8).1).mono ?_
  rintro e w' ⟨a', c', Y, hY, he, ho, hf⟩
  rw [pfx_all] at hY
  exact ⟨a', c', Y, hY, he, ho.nl.keep (S := []) (Frm.refl _ _) (by simp) (by simp), hf⟩
theorem tq_rlist (h : Tq w0 w Z k q S T room m n) : Calls Tryz.prog 20 #[.pointer (some ⟨q, 1, none⟩), .string ⟨#[]⟩] w fun e w' => ∃ a' c' Y, nds Y = T.nodes ∧ e = .returned (.slice a' Y.length c') ∧ NL w' [] a' Y ∧ Frm [] w w' := by
  obtain ⟨jq, dp, Fd, l, h1, h2, h3, h4, h5, h6, h7, h8⟩ := h
  refine (ds_list ⟨#[]⟩ h2 (tq_lts h1 h2 h8).2 (by decide)).mono ?_
  rintro e w' ⟨a', c', Y, hY, he, ho, hf⟩
  rw [pfx_all] at hY
  exact ⟨a', c', Y, hY, he, ho.keep (S := []) (Frm.refl _ _) (by simp) (by simp), hf⟩
end
/-- Both as they begin. -/
theorem tq_new {w0 w : World} {k room : Nat} (h : Ko w0 w [] k {} room 0 0) : Tq w0 (w.alloc (.cells #[.int .u64 0, .slice none 0 0, .int .u64 0, .slice none 0 0] 35)) [] k w.heap.size {} {} room 0 0 := by
  obtain ⟨jq, dp, Fd, l, h1, h2, h3, h4, h5, h6⟩ := h
  have hf : Frm [] w (w.alloc (.cells #[.int .u64 0, .slice none 0 0, .int .u64 0, .slice none 0 0] 35)) := (Frm.refl _ _).alloc _
  have hW := Whole.made w 35 #[.int .u64 0, .slice none 0 0, .int .u64 0, .slice none 0 0]
  have ho : w.heap.size ∉ k :: (Fd ++ []) := fun hm => by
    have := h1.klt w.heap.size (by simp only [List.mem_cons, List.append_nil] at hm ⊢; rcases hm with h | h; exact .inl h; exact .inr (.inr h))
    omega
  exact ⟨jq, dp, Fd, l, h1.keep hf (by simp) (fun x hx => .inr (by simp at hx; omega)), ⟨hW.cell 0, ⟨none, 0, [], ⟨hW.cell 1, fun j => hW.free j, NOwn.nil _ _ _ _, h2.size, ho, by simp⟩, ⟨List.Pairwise.nil, List.Perm.refl _⟩⟩, none, 0, ⟨hW.cell 2, hW.cell 3, fun j => hW.free j, SOwn.nil _ _ _ _, h2.size, ho, by simp, by show (0 : Nat) < 18446744073709551616; omega⟩⟩, h2.trans hf (by simp) (by simp), h3, h4, MOk.first, h5, by simp⟩
end Go.Proofs.YtcbpppdmkhpkkaaGreat
