/- '==' and '!=' of two api.Line. -/
import Derived.Test.YtahhkffghhgojaaCA
import Derived.WalkKit
import Derived.Laws.StructEq
namespace Go.Proofs.Ytahhkffghhgojaa
open Go.RowKit
set_option maxRecDepth 100000
theorem stood_ln : Try.prog.stoodInHeld 42 = false := by kernel_rfl
theorem fields_ln : Try.prog.underlying 42 = some (.struct (Try.prog.fieldsOf 42)) := by kernel_rfl
theorem stood_lnp : Try.prog.stoodInHeld 32 = false := by kernel_rfl
theorem fields_lnp : Try.prog.underlying 32 = some (.struct (Try.prog.fieldsOf 32)) := by kernel_rfl
theorem part_ln0 (p0 : ByteArray) (p1 p2 p3 p4 : Nat) (w : World) : (part 9 #[.string p0, .int .u64 (p1 : Nat), .int .u64 (p2 : Nat), .int .u64 (p3 : Nat), .int .u64 (p4 : Nat)] 0).run Try.prog w = .ok (.string p0) w := by kernel_rfl
theorem part_ln1 (p0 : ByteArray) (p1 p2 p3 p4 : Nat) (w : World) : (part 30 #[.string p0, .int .u64 (p1 : Nat), .int .u64 (p2 : Nat), .int .u64 (p3 : Nat), .int .u64 (p4 : Nat)] 1).run Try.prog w = .ok (.int .u64 (p1 : Nat)) w := by kernel_rfl
theorem part_ln2 (p0 : ByteArray) (p1 p2 p3 p4 : Nat) (w : World) : (part 30 #[.string p0, .int .u64 (p1 : Nat), .int .u64 (p2 : Nat), .int .u64 (p3 : Nat), .int .u64 (p4 : Nat)] 2).run Try.prog w = .ok (.int .u64 (p2 : Nat)) w := by kernel_rfl
theorem part_ln3 (p0 : ByteArray) (p1 p2 p3 p4 : Nat) (w : World) : (part 32 #[.string p0, .int .u64 (p1 : Nat), .int .u64 (p2 : Nat), .int .u64 (p3 : Nat), .int .u64 (p4 : Nat)] 3).run Try.prog w = .ok (.agg #[.int .u64 (p3 : Nat), .int .u64 (p4 : Nat)]) w := by kernel_rfl
theorem part_lnp0 (p3 p4 : Nat) (w : World) : (part 30 #[.int .u64 (p3 : Nat), .int .u64 (p4 : Nat)] 0).run Try.prog w = .ok (.int .u64 (p3 : Nat)) w := by kernel_rfl
theorem part_lnp1 (p3 p4 : Nat) (w : World) : (part 30 #[.int .u64 (p3 : Nat), .int .u64 (p4 : Nat)] 1).run Try.prog w = .ok (.int .u64 (p4 : Nat)) w := by kernel_rfl
theorem fl_ln : ((Try.prog.fieldsOf 42).toList.map fun f => (f.name, f.type, f.offset)) = [("Name", 9, 0), ("Top", 30, 1), ("Done", 30, 2), ("At", 32, 3)] := by kernel_rfl
theorem fl_lnp : ((Try.prog.fieldsOf 32).toList.map fun f => (f.name, f.type, f.offset)) = [("Ledger", 30, 0), ("Entry", 30, 1)] := by kernel_rfl
theorem equal_lnp (d : Nat) (p3 p4 q3 q4 : Nat) (w : World) : (Op.equalIn (d + 2) 32 (.agg #[.int .u64 (p3 : Nat), .int .u64 (p4 : Nat)]) (.agg #[.int .u64 (q3 : Nat), .int .u64 (q4 : Nat)])).run Try.prog w = .ok (decide (p3 = q3) && decide (p4 = q4)) w := by
  rw [run_equalIn_struct w (d + 1) _ _ _ fields_lnp stood_lnp]
  have hl := fl_lnp
  generalize (Try.prog.fieldsOf 32).toList = fs at hl
  have e0 := fun d (x y : Nat) W => run_equalIn_int (P := Try.prog) W d 30 .u64 .u64 (x : Int) (y : Int) Try.underlying30
  rcases fs with _ | ⟨f0, _ | ⟨f1, _ | ⟨x, fs⟩⟩⟩
  · simp at hl
  · simp at hl
  · simp only [List.map_cons, List.map_nil, List.cons.injEq, Prod.mk.injEq, and_true] at hl
    obtain ⟨⟨n0, t0, o0⟩, n1, t1, o1⟩ := hl
    simp only [Op.eqFields, n0, n1, t0, t1, o0, o1]
    simp only [Sem.run_bind, ne_eq, String.reduceEq, not_false_eq_true, if_true, part_lnp0, Result.andThen_ok, e0 d]
    by_cases h0 : p3 = q3
    · by_cases h1 : p4 = q4
      · simp [h0, h1, part_lnp1, e0]
      · have g1 : ((p4 : Int) == (q4 : Int)) = false := by simp; omega
        simp [h0, h1, g1, part_lnp1, e0]
    · have g0 : ((p3 : Int) == (q3 : Int)) = false := by simp; omega
      simp [h0, g0]
  · simp at hl
theorem equal_ln (p0 : ByteArray) (p1 p2 p3 p4 : Nat) (q0 : ByteArray) (q1 q2 q3 q4 : Nat) (w : World) : (Op.equalIn 10000 42 (.agg #[.string p0, .int .u64 (p1 : Nat), .int .u64 (p2 : Nat), .int .u64 (p3 : Nat), .int .u64 (p4 : Nat)]) (.agg #[.string q0, .int .u64 (q1 : Nat), .int .u64 (q2 : Nat), .int .u64 (q3 : Nat), .int .u64 (q4 : Nat)])).run Try.prog w = .ok (decide ((⟨p0, p1, p2, p3, p4⟩ : Ln) = ⟨q0, q1, q2, q3, q4⟩)) w := by
  rw [run_equalIn_struct w 9999 _ _ _ fields_ln stood_ln]
  have hl := fl_ln
  generalize (Try.prog.fieldsOf 42).toList = fs at hl
  have e0 := fun d (x y : ByteArray) W => run_equalIn_string (P := Try.prog) W d 9 x y Try.underlying9
  have e1 := fun d (x y : Nat) W => run_equalIn_int (P := Try.prog) W d 30 .u64 .u64 (x : Int) (y : Int) Try.underlying30
  have e3 : ∀ (x y z u : Nat) (W : World), (Op.equalIn 9999 32 (.agg #[.int .u64 (x : Nat), .int .u64 (y : Nat)]) (.agg #[.int .u64 (z : Nat), .int .u64 (u : Nat)])).run Try.prog W = .ok (decide (x = z) && decide (y = u)) W := fun x y z u W => equal_lnp 9997 x y z u W
  rcases fs with _ | ⟨f0, _ | ⟨f1, _ | ⟨f2, _ | ⟨f3, _ | ⟨x, fs⟩⟩⟩⟩⟩
  · simp at hl
  · simp at hl
  · simp at hl
  · simp at hl
  · simp only [List.map_cons, List.map_nil, List.cons.injEq, Prod.mk.injEq, and_true] at hl
    obtain ⟨⟨n0, t0, o0⟩, ⟨n1, t1, o1⟩, ⟨n2, t2, o2⟩, n3, t3, o3⟩ := hl
    simp only [Op.eqFields, n0, n1, n2, n3, t0, t1, t2, t3, o0, o1, o2, o3]
    simp only [Sem.run_bind, ne_eq, String.reduceEq, not_false_eq_true, if_true, part_ln0, Result.andThen_ok, e0 9998]
    by_cases h0 : p0 = q0
    · by_cases h1 : p1 = q1
      · by_cases h2 : p2 = q2
        · simp [h0, h1, h2, part_ln1, part_ln2, part_ln3, e1, e3]
          by_cases h3 : p3 = q3 <;> by_cases h4 : p4 = q4 <;> simp [h3, h4]
        · have g2 : ((p2 : Int) == (q2 : Int)) = false := by simp; omega
          simp [h0, h1, h2, g2, part_ln1, part_ln2, e1]
      · have g1 : ((p1 : Int) == (q1 : Int)) = false := by simp; omega
        simp [h0, h1, g1, part_ln1, e1]
    · have g0 := txt_ne h0
      simp [h0, g0]
  · simp at hl
theorem neq_ln (p0 : ByteArray) (p1 p2 p3 p4 : Nat) (q0 : ByteArray) (q1 q2 q3 q4 : Nat) (w : World) : (binOp .neq 42 (.agg #[.string p0, .int .u64 (p1 : Nat), .int .u64 (p2 : Nat), .int .u64 (p3 : Nat), .int .u64 (p4 : Nat)]) (.agg #[.string q0, .int .u64 (q1 : Nat), .int .u64 (q2 : Nat), .int .u64 (q3 : Nat), .int .u64 (q4 : Nat)])).run Try.prog w = .ok (.bool (!decide ((⟨p0, p1, p2, p3, p4⟩ : Ln) = ⟨q0, q1, q2, q3, q4⟩))) w := by
  rw [run_neq_struct, equal_ln]; rfl
end Go.Proofs.Ytahhkffghhgojaa
