/- A map from api.Pos to bool that the call made: what is in it is true. -/
import Derived.Test.YtghadpihmhaepaaKB
import Derived.Test.YtghadpihmhaepaaKA
import Derived.Maps.OwnSet
namespace Go.Proofs.Ytghadpihmhaepaa
open Go.RowKit
set_option maxRecDepth 100000

/-- Block b of w is a map; L says what is in it. -/
def MapP (w : World) (b : Nat) (L : List Ps) : Prop := ∃ (es : Array MapEntry) (clock : Nat), w.heap[b]? = some (.map es clock) ∧ es.toList.map (fun e => (e.key, e.val)) = L.map (fun p => (p.val, Value.bool true))
theorem MapP.lt {w : World} {b : Nat} {L : List Ps} (h : MapP w b L) : b < w.heap.size := by
  obtain ⟨es, c, h1, _⟩ := h
  exact (Array.getElem?_eq_some_iff.1 h1).1
theorem MapP.keep {w w' : World} {b : Nat} {L : List Ps} {S : List Nat} (h : MapP w b L) (hf : Frm S w w') (hS : b ∉ S) : MapP w' b L := by
  have h0 := h.lt
  obtain ⟨es, c, h1, h2⟩ := h
  exact ⟨es, c, (hf.block b h0 hS).trans h1, h2⟩
theorem MapP.new (w : World) : MapP (w.alloc (.map #[] 0)) w.heap.size [] := ⟨#[], 0, heap_alloc_new w _, rfl⟩
theorem und_mapP : Try.prog.underlying 47 = some (.map 25 4) := Try.underlying47
theorem und_keyP : ∃ fs, Try.prog.underlying 25 = some (.struct fs) := ⟨_, fields_ps⟩
theorem checkKeyP (em : Bool) (p : Ps) (w : World) : (Instr.checkKey em 10000 25 p.val).run Try.prog w = .ok () w := by
  obtain ⟨pl, pe⟩ := p
  cases em <;> kernel_rfl
theorem askP (p : Ps) (w : World) : ∀ (es : List MapEntry) (L : List Ps) (i : Nat), es.map (fun e => (e.key, e.val)) = L.map (fun p => (p.val, Value.bool true)) →
    ∃ r, (Instr.findAsking 25 p.val es i).run Try.prog w = .ok r w ∧ (p ∈ L → ∃ j, r = some (j, .bool true)) ∧ (p ∉ L → r = none)
  | [], [], i, _ => ⟨none, rfl, fun h => by simp at h, fun _ => rfl⟩
  | [], x :: L, i, h => by simp at h
  | e :: es, [], i, h => by simp at h
  | e :: es, q :: L, i, h => by
    simp only [List.map_cons, List.cons.injEq, Prod.mk.injEq] at h
    obtain ⟨⟨h1, h2⟩, h3⟩ := h
    have hq : (Op.equal 25 p.val e.key).run Try.prog w = .ok (decide (p = q)) w := by
      rw [h1]
      obtain ⟨pl, pe⟩ := p
      obtain ⟨ql, qe⟩ := q
      exact equal_ps pl pe ql qe w
    by_cases hpq : p = q
    · subst hpq
      rw [decide_eq_true rfl] at hq
      refine ⟨some (i, .bool true), ?_, fun _ => ⟨i, rfl⟩, fun hn => absurd (by simp) hn⟩
      unfold Instr.findAsking
      simp only [Sem.run_bind, hq, Result.andThen_ok, if_true, h2]
      rfl
    · obtain ⟨r, r1, r2, r3⟩ := askP p w es L (i + 1) h3
      refine ⟨r, ?_, fun hm => r2 (by simpa [hpq] using hm), fun hm => r3 (fun hn => hm (by simp [hn]))⟩
      unfold Instr.findAsking
      rw [decide_eq_false hpq] at hq
      simp only [Sem.run_bind, hq, Result.andThen_ok, Bool.false_eq_true, if_false]
      exact r1
theorem findP (p : Ps) (w : World) (es : List MapEntry) (L : List Ps) (h : es.map (fun e => (e.key, e.val)) = L.map (fun p => (p.val, Value.bool true))) :
    ∃ r, (Instr.findKey 25 p.val es).run Try.prog w = .ok r w ∧ (p ∈ L → ∃ j, r = some (j, .bool true)) ∧ (p ∉ L → r = none) := by
  obtain ⟨fs, hk⟩ := und_keyP
  cases es with
  | nil =>
    cases L with
    | nil => exact ⟨none, by simp [Instr.findKey, run_underlying hk, Result.andThen, Instr.findNow], fun h => by simp at h, fun _ => rfl⟩
    | cons x L => simp at h
  | cons e es =>
    obtain ⟨r, r1, r2, r3⟩ := askP p w (e :: es) L 0 h
    refine ⟨r, ?_, r2, r3⟩
    have h0 : Instr.findNow (.struct fs) p.val (e :: es) 0 = none := by
      unfold Instr.findNow
      rfl
    simp [Instr.findKey, run_underlying hk, Result.andThen, h0, r1]
theorem MapP.look {w : World} {b : Nat} {L : List Ps} (h : MapP w b L) (p : Ps) : (Instr.lookup 47 (.map (some b)) p.val false).run Try.prog w = .ok (.bool (decide (p ∈ L))) w := by
  obtain ⟨es, c, h1, h2⟩ := h
  obtain ⟨r, r1, r2, r3⟩ := findP p w es.toList L h2
  have hz : (zeroValue 4).run Try.prog w = .ok (.bool false) w := by kernel_rfl
  by_cases hm : p ∈ L
  · obtain ⟨j, hj⟩ := r2 hm
    rw [hj] at r1
    simp [Instr.lookup, run_underlying und_mapP, MapKept.run_getObj_map h1, checkKeyP, r1, hm, Result.andThen]
  · rw [r3 hm] at r1
    simp [Instr.lookup, run_underlying und_mapP, MapKept.run_getObj_map h1, checkKeyP, r1, hm, hz, Result.andThen]
theorem MapP.put {w : World} {b : Nat} {L : List Ps} (h : MapP w b L) {p : Ps} (hp : p ∉ L) : ∃ w', (Instr.mapUpdate 47 (.map (some b)) p.val (.bool true)).run Try.prog w = .ok () w' ∧ MapP w' b (L ++ [p]) ∧ Frm [b] w w' := by
  obtain ⟨es, c, h1, h2⟩ := h
  obtain ⟨r, r1, r2, r3⟩ := findP p w es.toList L h2
  rw [r3 hp] at r1
  have hset := MapKept.heap_set (o' := .map (es.push ⟨p.val, .bool true, c⟩) (c + 1)) h1
  refine ⟨{ w with heap := w.heap.setIfInBounds b (.map (es.push ⟨p.val, .bool true, c⟩) (c + 1)) }, ?_, ⟨_, _, hset.1, ?_⟩, ⟨rfl, rfl, rfl, by simp, fun k hk hne => hset.2 k (by simpa using hne)⟩⟩
  · simp [Instr.mapUpdate, run_underlying und_mapP, MapKept.run_getObj_map h1, checkKeyP, r1, MapKept.run_setObj_map _ h1, Result.andThen]
  · simp [h2]
/-- A block that is stored. -/
def putB (z : World) (b : Nat) (O : Obj) : World := { z with heap := z.heap.setIfInBounds b O }
theorem MapP.puts {w : World} {b : Nat} {L : List Ps} (h : MapP w b L) {p : Ps} (hp : p ∉ L) : ∃ O : Obj, ∀ z : World, z.heap[b]? = w.heap[b]? →
    (Instr.mapUpdate 47 (.map (some b)) p.val (.bool true)).run Try.prog z = .ok () (putB z b O) ∧ MapP (putB z b O) b (L ++ [p]) ∧ Frm [b] z (putB z b O) := by
  obtain ⟨es, c, h1, h2⟩ := h
  refine ⟨.map (es.push ⟨p.val, .bool true, c⟩) (c + 1), fun z hz => ?_⟩
  rw [h1] at hz
  obtain ⟨r, r1, r2, r3⟩ := findP p z es.toList L h2
  rw [r3 hp] at r1
  have hset := MapKept.heap_set (o' := .map (es.push ⟨p.val, .bool true, c⟩) (c + 1)) hz
  refine ⟨?_, ⟨_, _, hset.1, ?_⟩, ⟨rfl, rfl, rfl, by simp [putB], fun k hk hne => hset.2 k (by simpa using hne)⟩⟩
  · simp [Instr.mapUpdate, run_underlying und_mapP, MapKept.run_getObj_map hz, checkKeyP, r1, MapKept.run_setObj_map _ hz, Result.andThen, putB]
  · simp [h2]
theorem MapP.len {w : World} {b : Nat} {L : List Ps} (h : MapP w b L) (ty : TypeId) : (Builtin.len_ #[47] ty #[.map (some b)]).run Try.prog w = .ok (.int .i64 (L.length : Nat)) w := by
  obtain ⟨es, c, h1, h2⟩ := h
  have e1 : es.size = L.length := by
    have := congrArg List.length h2
    simpa using this
  rw [← e1]
  simp [Builtin.len_, run_underlying und_mapP, MapKept.run_getObj_map h1, goInt, Result.andThen]
end Go.Proofs.Ytghadpihmhaepaa
