/- Contracts of Read's deferred closure, by how Read is left. -/
import Derived.Test.YtpamiglinmfgkaaDoorPkRWords
import Derived.Recover
import Derived.LaidEqlPtr
namespace Go.Proofs.YtpamiglinmfgkaaDoor
open Go.RowKit

theorem neq_same {P : Program} (w : World) {tp te : TypeId} {j : TypeInfo} (a : Addr) (hp : P.underlying tp = some (.pointer te)) (hte : P.info? te = some j) :
    (binOp .neq tp (.pointer (some a)) (.pointer (some a))).run P w = .ok (.bool false) w := by
  have h : ∀ d : Nat, (Op.equalIn (d + 1) tp (.pointer (some a)) (.pointer (some a))).run P w = .ok true w := fun d => by
    simp [Op.equalIn, run_underlying hp, sizeOf, typeInfo, hte, run_sameAddr_same]
  simp only [binOp]
  simp [Op.equal, Op.maxDepth, h 9999]
theorem call_info : ∃ j, Tryd.prog.info? 47 = some j := by
  have h : (Tryd.prog.info? 47).isSome = true := by kernel_rfl
  exact Option.isSome_iff_exists.1 h
theorem neq_call (a : Addr) (w : World) : (binOp .neq 45 (.pointer (some a)) (.pointer (some a))).run Tryd.prog w = .ok (.bool false) w := by
  obtain ⟨j, hj⟩ := call_info
  exact neq_same w a Tryd.underlying45 hj
theorem as_call (v : Option Addr) (w : World) : (Instr.typeAssert (.iface 45 (.pointer v)) 20 45 true).run Tryd.prog w = .ok (.tuple #[.pointer v, .bool true]) w := by kernel_rfl
theorem as_call_int (n : Int) (w : World) : (Instr.typeAssert (.iface 3 (.int .i64 n)) 20 45 true).run Tryd.prog w = .ok (.tuple #[.pointer none, .bool false]) w := by kernel_rfl

theorem d_idle (ob cb eb : Nat) (code : Int) (w : World) (ho : Whole w ob 45 #[.pointer (some ⟨cb, 0, none⟩)]) (hc : Whole w cb 47 #[.bool false, .int .i64 code]) :
    CallsD Tryd.prog 18 #[.pointer (some ⟨ob, 0, none⟩), .pointer (some ⟨eb, 0, none⟩)] .returning w fun e u' w' =>
      e = .returned (.tuple #[]) ∧ u' = .returning ∧ w' = w.setCell ⟨cb, 0, none⟩ (.bool true) := by
  have hne : ob ≠ cb := ho.ne hc (by decide)
  have c0 := ho.cell 0
  have c1 := hc.cell 0
  have f1 := hc.free 0
  have c2 := (ho.other (p := ⟨cb, 0, none⟩) hne (.bool true)).cell 0
  have c3 := (hc.put 0 (.bool true)).cell 1
  simp at c0 c1 c2 c3
  clear ho hc
  refine callsD_of_wpS Tryd.func18 rfl fun c₀ cs hu => ?_
  simp only [Tryd.ntmps18, List.size_toArray, List.length_cons, List.length_nil, Nat.reduceAdd, Nat.reduceSub, Array.replicate_succ, Array.replicate_zero, List.push_toArray, List.append_toArray, List.nil_append, List.cons_append]
  apply wpS_seq
  refine wpS_of_wp ?_
  go_wp2
  show Code.wpS _ _ _ _ _ _
  apply wpS_seq
  apply wpS_region
  simp [wpOpsS, go_sem, recoverD, hu, Exit.thenS]
  refine wpS_of_wp ?_
  go_wp2
  cases c₀
  simp_all [bodyPostS, results, Tryd.results18]

theorem d_own (ob cb eb : Nat) (code x : Int) (older : List PanicEntry) (w : World) (ho : Whole w ob 45 #[.pointer (some ⟨cb, 0, none⟩)]) (hc : Whole w cb 47 #[.bool false, .int .i64 code]) (he : Whole w eb 27 #[.int .i64 x]) :
    CallsD Tryd.prog 18 #[.pointer (some ⟨ob, 0, none⟩), .pointer (some ⟨eb, 0, none⟩)] (.panicking ({ v := .iface 45 (.pointer (some ⟨cb, 0, none⟩)), recovered := false } :: older)) w fun e u' w' =>
      e = .returned (.tuple #[]) ∧ u' = .panicking ({ v := .iface 45 (.pointer (some ⟨cb, 0, none⟩)), recovered := true } :: older) ∧ w' = (w.setCell ⟨cb, 0, none⟩ (.bool true)).setCell ⟨eb, 0, none⟩ (.int .i64 code) := by
  have hne : ob ≠ cb := ho.ne hc (by decide)
  have hne2 : eb ≠ cb := he.ne hc (by decide)
  have e0 := (he.other (p := ⟨cb, 0, none⟩) hne2 (.bool true)).cell 0
  have e1 := (he.other (p := ⟨cb, 0, none⟩) hne2 (.bool true)).free 0
  simp at e0
  clear he
  have ta := as_call
  have ta2 := as_call_int
  have tn := neq_call
  have c0 := ho.cell 0
  have c1 := hc.cell 0
  have f1 := hc.free 0
  have c2 := (ho.other (p := ⟨cb, 0, none⟩) hne (.bool true)).cell 0
  have c3 := (hc.put 0 (.bool true)).cell 1
  simp at c0 c1 c2 c3
  clear ho hc
  refine callsD_of_wpS Tryd.func18 rfl fun c₀ cs hu => ?_
  simp only [Tryd.ntmps18, List.size_toArray, List.length_cons, List.length_nil, Nat.reduceAdd, Nat.reduceSub, Array.replicate_succ, Array.replicate_zero, List.push_toArray, List.append_toArray, List.nil_append, List.cons_append]
  apply wpS_seq
  refine wpS_of_wp ?_
  go_wp2
  show Code.wpS _ _ _ _ _ _
  apply wpS_seq
  apply wpS_region
  simp [wpOpsS, go_sem, recoverD, hu, Exit.thenS]
  refine wpS_of_wp ?_
  go_wp2
  simp [bodyPostS, results, Tryd.results18]

theorem d_other (ob cb eb : Nat) (code n : Int) (older : List PanicEntry) (w : World) (ho : Whole w ob 45 #[.pointer (some ⟨cb, 0, none⟩)]) (hc : Whole w cb 47 #[.bool false, .int .i64 code]) :
    CallsD Tryd.prog 18 #[.pointer (some ⟨ob, 0, none⟩), .pointer (some ⟨eb, 0, none⟩)] (.panicking ({ v := .iface 3 (.int .i64 n), recovered := false } :: older)) w fun e u' w' =>
      e = .panicked [{ v := .iface 3 (.int .i64 n), recovered := false }] ∧ u' = .panicking ({ v := .iface 3 (.int .i64 n), recovered := true } :: older) ∧ w' = w.setCell ⟨cb, 0, none⟩ (.bool true) := by
  have hne : ob ≠ cb := ho.ne hc (by decide)
  have ta := as_call
  have ta2 := as_call_int
  have c0 := ho.cell 0
  have c1 := hc.cell 0
  have f1 := hc.free 0
  have c2 := (ho.other (p := ⟨cb, 0, none⟩) hne (.bool true)).cell 0
  have c3 := (hc.put 0 (.bool true)).cell 1
  simp at c0 c1 c2 c3
  clear ho hc
  refine callsD_of_wpS Tryd.func18 rfl fun c₀ cs hu => ?_
  simp only [Tryd.ntmps18, List.size_toArray, List.length_cons, List.length_nil, Nat.reduceAdd, Nat.reduceSub, Array.replicate_succ, Array.replicate_zero, List.push_toArray, List.append_toArray, List.nil_append, List.cons_append]
  apply wpS_seq
  refine wpS_of_wp ?_
  go_wp2
  show Code.wpS _ _ _ _ _ _
  apply wpS_seq
  apply wpS_region
  simp [wpOpsS, go_sem, recoverD, hu, Exit.thenS]
  refine wpS_of_wp ?_
  go_wp2
  simp [bodyPostS]
end Go.Proofs.YtpamiglinmfgkaaDoor
