/- '==' and '!=' of two api.Pos. -/
import Derived.Test.YtimmoencmmpkdaaPs
import Derived.WalkKit
import Derived.Laws.StructEq
namespace Go.Proofs.Ytimmoencmmpkdaa
open Go.RowKit
set_option maxRecDepth 100000
theorem stood_ps : Try.prog.stoodInHeld 36 = false := by kernel_rfl
theorem fields_ps : Try.prog.underlying 36 = some (.struct (Try.prog.fieldsOf 36)) := by kernel_rfl
theorem part_ps0 (p0 : Nat) (p1 : Nat) (w : World) : (part 24 #[.int .u64 (p0 : Nat), .int .u64 (p1 : Nat)] 0).run Try.prog w = .ok (.int .u64 (p0 : Nat)) w := by kernel_rfl
theorem part_ps1 (p0 : Nat) (p1 : Nat) (w : World) : (part 24 #[.int .u64 (p0 : Nat), .int .u64 (p1 : Nat)] 1).run Try.prog w = .ok (.int .u64 (p1 : Nat)) w := by kernel_rfl
theorem fl_ps : ((Try.prog.fieldsOf 36).toList.map fun f => (f.name, f.type, f.offset)) = [("Ledger", 24, 0), ("Entry", 24, 1)] := by kernel_rfl
theorem equal_ps (p0 : Nat) (p1 : Nat) (q0 : Nat) (q1 : Nat) (w : World) : (Op.equalIn 10000 36 (.agg #[.int .u64 (p0 : Nat), .int .u64 (p1 : Nat)]) (.agg #[.int .u64 (q0 : Nat), .int .u64 (q1 : Nat)])).run Try.prog w = .ok (decide ((⟨p0, p1⟩ : Ps) = ⟨q0, q1⟩)) w := by
  rw [run_equalIn_struct w 9999 _ _ _ fields_ps stood_ps]
  have hl := fl_ps
  generalize (Try.prog.fieldsOf 36).toList = fs at hl
  have e0 := fun d (x y : Nat) W => run_equalIn_int (P := Try.prog) W d 24 .u64 .u64 (x : Int) (y : Int) Try.underlying24
  rcases fs with _ | ⟨f0, _ | ⟨f1, _ | ⟨x, fs⟩⟩⟩
  · simp at hl
  · simp at hl
  · simp only [List.map_cons, List.map_nil, List.cons.injEq, Prod.mk.injEq, and_true] at hl
    obtain ⟨⟨n0, t0, o0⟩, n1, t1, o1⟩ := hl
    simp only [Op.eqFields, n0, n1, t0, t1, o0, o1]
    simp only [Sem.run_bind, ne_eq, String.reduceEq, not_false_eq_true, if_true, part_ps0, Result.andThen_ok, e0 9998]
    by_cases h0 : p0 = q0
    · by_cases h1 : p1 = q1
      · simp [h0, h1, part_ps1, e0]
      · have g1 : ((p1 : Int) == (q1 : Int)) = false := by simp; omega
        simp [h0, h1, g1, part_ps1, e0]
    · have g0 : ((p0 : Int) == (q0 : Int)) = false := by simp; omega
      simp [h0, g0]
  · simp at hl
theorem eql_ps (p0 : Nat) (p1 : Nat) (q0 : Nat) (q1 : Nat) (w : World) : (binOp .eql 36 (.agg #[.int .u64 (p0 : Nat), .int .u64 (p1 : Nat)]) (.agg #[.int .u64 (q0 : Nat), .int .u64 (q1 : Nat)])).run Try.prog w = .ok (.bool (decide ((⟨p0, p1⟩ : Ps) = ⟨q0, q1⟩))) w := by
  rw [run_eql_struct, equal_ps]; rfl
theorem neq_ps (p0 : Nat) (p1 : Nat) (q0 : Nat) (q1 : Nat) (w : World) : (binOp .neq 36 (.agg #[.int .u64 (p0 : Nat), .int .u64 (p1 : Nat)]) (.agg #[.int .u64 (q0 : Nat), .int .u64 (q1 : Nat)])).run Try.prog w = .ok (.bool (!decide ((⟨p0, p1⟩ : Ps) = ⟨q0, q1⟩))) w := by
  rw [run_neq_struct, equal_ps]; rfl
end Go.Proofs.Ytimmoencmmpkdaa
