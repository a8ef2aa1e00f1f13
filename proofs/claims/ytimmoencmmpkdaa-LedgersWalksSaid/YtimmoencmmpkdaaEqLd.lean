/- '==' and '!=' of two api.Ledger. -/
import Derived.Test.YtimmoencmmpkdaaLd
import Derived.WalkKit
import Derived.Laws.StructEq
namespace Go.Proofs.Ytimmoencmmpkdaa
open Go.RowKit
set_option maxRecDepth 100000
theorem stood_ld : Try.prog.stoodInHeld 32 = false := by kernel_rfl
theorem fields_ld : Try.prog.underlying 32 = some (.struct (Try.prog.fieldsOf 32)) := by kernel_rfl
theorem part_ld0 (p0 : Nat) (p1 : Bool) (p2 : Nat) (w : World) : (part 24 #[.int .u64 (p0 : Nat), .bool p1, .int .u64 (p2 : Nat)] 0).run Try.prog w = .ok (.int .u64 (p0 : Nat)) w := by kernel_rfl
theorem part_ld1 (p0 : Nat) (p1 : Bool) (p2 : Nat) (w : World) : (part 4 #[.int .u64 (p0 : Nat), .bool p1, .int .u64 (p2 : Nat)] 1).run Try.prog w = .ok (.bool p1) w := by kernel_rfl
theorem part_ld2 (p0 : Nat) (p1 : Bool) (p2 : Nat) (w : World) : (part 24 #[.int .u64 (p0 : Nat), .bool p1, .int .u64 (p2 : Nat)] 2).run Try.prog w = .ok (.int .u64 (p2 : Nat)) w := by kernel_rfl
theorem fl_ld : ((Try.prog.fieldsOf 32).toList.map fun f => (f.name, f.type, f.offset)) = [("Id", 24, 0), ("Closed", 4, 1), ("Count", 24, 2)] := by kernel_rfl
theorem equal_ld (p0 : Nat) (p1 : Bool) (p2 : Nat) (q0 : Nat) (q1 : Bool) (q2 : Nat) (w : World) : (Op.equalIn 10000 32 (.agg #[.int .u64 (p0 : Nat), .bool p1, .int .u64 (p2 : Nat)]) (.agg #[.int .u64 (q0 : Nat), .bool q1, .int .u64 (q2 : Nat)])).run Try.prog w = .ok (decide ((⟨p0, p1, p2⟩ : Ld) = ⟨q0, q1, q2⟩)) w := by
  rw [run_equalIn_struct w 9999 _ _ _ fields_ld stood_ld]
  have hl := fl_ld
  generalize (Try.prog.fieldsOf 32).toList = fs at hl
  have e0 := fun d (x y : Nat) W => run_equalIn_int (P := Try.prog) W d 24 .u64 .u64 (x : Int) (y : Int) Try.underlying24
  have e1 := fun d (x y : Bool) W => run_equalIn_bool (P := Try.prog) W d 4 x y Try.underlying4
  rcases fs with _ | ⟨f0, _ | ⟨f1, _ | ⟨f2, _ | ⟨x, fs⟩⟩⟩⟩
  · simp at hl
  · simp at hl
  · simp at hl
  · simp only [List.map_cons, List.map_nil, List.cons.injEq, Prod.mk.injEq, and_true] at hl
    obtain ⟨⟨n0, t0, o0⟩, ⟨n1, t1, o1⟩, n2, t2, o2⟩ := hl
    simp only [Op.eqFields, n0, n1, n2, t0, t1, t2, o0, o1, o2]
    simp only [Sem.run_bind, ne_eq, String.reduceEq, not_false_eq_true, if_true, part_ld0, Result.andThen_ok, e0 9998]
    by_cases h0 : p0 = q0
    · by_cases h1 : p1 = q1
      · by_cases h2 : p2 = q2
        · simp [h0, h1, h2, part_ld1, part_ld2, e0, e1]
        · have g2 : ((p2 : Int) == (q2 : Int)) = false := by simp; omega
          simp [h0, h1, h2, g2, part_ld1, part_ld2, e0, e1]
      · have g1 : (p1 == q1) = false := by simpa using h1
        simp [h0, h1, g1, part_ld1, e1]
    · have g0 : ((p0 : Int) == (q0 : Int)) = false := by simp; omega
      simp [h0, g0]
  · simp at hl
theorem eql_ld (p0 : Nat) (p1 : Bool) (p2 : Nat) (q0 : Nat) (q1 : Bool) (q2 : Nat) (w : World) : (binOp .eql 32 (.agg #[.int .u64 (p0 : Nat), .bool p1, .int .u64 (p2 : Nat)]) (.agg #[.int .u64 (q0 : Nat), .bool q1, .int .u64 (q2 : Nat)])).run Try.prog w = .ok (.bool (decide ((⟨p0, p1, p2⟩ : Ld) = ⟨q0, q1, q2⟩))) w := by
  rw [run_eql_struct, equal_ld]; rfl
theorem neq_ld (p0 : Nat) (p1 : Bool) (p2 : Nat) (q0 : Nat) (q1 : Bool) (q2 : Nat) (w : World) : (binOp .neq 32 (.agg #[.int .u64 (p0 : Nat), .bool p1, .int .u64 (p2 : Nat)]) (.agg #[.int .u64 (q0 : Nat), .bool q1, .int .u64 (q2 : Nat)])).run Try.prog w = .ok (.bool (!decide ((⟨p0, p1, p2⟩ : Ld) = ⟨q0, q1, q2⟩))) w := by
  rw [run_neq_struct, equal_ld]; rfl
end Go.Proofs.Ytimmoencmmpkdaa
