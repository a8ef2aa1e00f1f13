/- Contracts of SameSessions at equal lists, of sameIds at equal lists. -/
import Derived.Test.YtefplgligmkbiaaRbAt
import Derived.Test.YtefplgligmkbiaaLsMath
import Derived.Laws.StructEq
import Derived.BigQuiet
namespace Go.Proofs.Ytefplgligmkbiaa
open Go.RowKit

theorem stood_sn : Try.prog.stoodInHeld 56 = false := by kernel_rfl
theorem fields_sn : Try.prog.underlying 56 = some (.struct (Try.prog.fieldsOf 56)) := by kernel_rfl
theorem part_sn (p0 p1 p2 : Nat) (w : World) : (part 22 #[.int .u64 (p0 : Nat), .int .u64 (p1 : Nat), .int .u64 (p2 : Nat)] 0).run Try.prog w = .ok (.int .u64 (p0 : Nat)) w ∧ (part 22 #[.int .u64 (p0 : Nat), .int .u64 (p1 : Nat), .int .u64 (p2 : Nat)] 1).run Try.prog w = .ok (.int .u64 (p1 : Nat)) w ∧ (part 22 #[.int .u64 (p0 : Nat), .int .u64 (p1 : Nat), .int .u64 (p2 : Nat)] 2).run Try.prog w = .ok (.int .u64 (p2 : Nat)) w := ⟨by kernel_rfl, by kernel_rfl, by kernel_rfl⟩
theorem fl_sn : ((Try.prog.fieldsOf 56).toList.map fun f => (f.name, f.type, f.offset)) = [("Id", 22, 0), ("Ends", 22, 1), ("Life", 22, 2)] := by kernel_rfl
theorem equal_sn (p0 p1 p2 : Nat) (w : World) : (Op.equalIn 10000 56 (.agg #[.int .u64 (p0 : Nat), .int .u64 (p1 : Nat), .int .u64 (p2 : Nat)]) (.agg #[.int .u64 (p0 : Nat), .int .u64 (p1 : Nat), .int .u64 (p2 : Nat)])).run Try.prog w = .ok true w := by
  rw [run_equalIn_struct w 9999 _ _ _ fields_sn stood_sn]
  have hl := fl_sn
  generalize (Try.prog.fieldsOf 56).toList = fs at hl
  have e1 := fun d (x y : Nat) W => run_equalIn_int (P := Try.prog) W d 22 .u64 .u64 (x : Int) (y : Int) Try.underlying22
  rcases fs with _ | ⟨f, _ | ⟨g, _ | ⟨k, _ | ⟨x, fs⟩⟩⟩⟩
  · simp at hl
  · simp at hl
  · simp at hl
  · simp only [List.map_cons, List.map_nil, List.cons.injEq, Prod.mk.injEq, and_true] at hl
    obtain ⟨⟨n1, t1, o1⟩, ⟨n2, t2, o2⟩, n3, t3, o3⟩ := hl
    simp only [Op.eqFields, n1, n2, n3, t1, t2, t3, o1, o2, o3]
    simp only [Sem.run_bind, ne_eq, String.reduceEq, not_false_eq_true, if_true, (part_sn _ _ _ _).1, Result.andThen_ok, e1 9998]
    simp [(part_sn _ _ _ _).2.1, (part_sn _ _ _ _).2.2, e1]
  · simp at hl
theorem neq_sn (p0 p1 p2 : Nat) (w : World) : (binOp .neq 56 (.agg #[.int .u64 (p0 : Nat), .int .u64 (p1 : Nat), .int .u64 (p2 : Nat)]) (.agg #[.int .u64 (p0 : Nat), .int .u64 (p1 : Nat), .int .u64 (p2 : Nat)])).run Try.prog w = .ok (.bool false) w := by
  rw [run_neq_struct, equal_sn]; rfl

set_option maxRecDepth 100000 in
set_option maxHeartbeats 1000000 in
theorem same_any {w : World} {a a' : Option Addr} {X : List Sn} (h : SL w [] a X) (h' : SL w [] a' X) {n cap cap' : Nat} (hn : n = X.length) (hsz : n < 4611686018427387904) :
    Calls Try.prog 34 #[.slice a n cap, .slice a' n cap'] w fun e w' => e = .returned (.bool true) ∧ Frm [] w w' := by
  have HN := Lib.hid hn; clear hn
  have H := Lib.hid h; clear h
  have H' := Lib.hid h'; clear h'
  have hb : ((n : Int) != (n : Int)) = false := by simp
  go_enter Try.func34, Try.ntmps34
  go_wp2
  clear hb
  go_loopw [5] (fun i wr => ∃ k : Nat, k ≤ n ∧ i = .int .i64 k ∧ Hid (Frm [] w wr)) (fun i _ => n - (intOf i).toNat)
  case atStart => exact ⟨0, Nat.zero_le _, rfl, Lib.hid (Frm.refl _ _)⟩
  case round =>
    obtain ⟨k, hk, rfl, HF⟩ := hrel
    by_cases hlt : k < n
    · obtain ⟨b, off, rfl, p0, p1, p2, _⟩ := (H.out.keep (F' := []) HF.out (by simp) (by simp)).at (i := k) (by have := HN.out; omega)
      obtain ⟨b', off', rfl, q0, q1, q2, _⟩ := (H'.out.keep (F' := []) HF.out (by simp) (by simp)).at (i := k) (by have := HN.out; omega)
      generalize X.getD k default = x at p0 p1 p2 q0 q1 q2
      obtain ⟨x0, x1, x2⟩ := x
      simp only at p0 p1 p2 q0 q1 q2
      have hlt' : (k : Int) < (n : Int) := by omega
      have e := fun w => neq_sn x0 x1 x2 w
      go_wp2
      go_quiet (fail)
      go_wp2
      go_roundw
      case rel => exact ⟨k + 1, by omega, by go_num, Lib.hid (HF.out.drewN _)⟩
      case measure => simp [intOf]; omega
    · obtain rfl : k = n := by omega
      go_wp2
      go_ret
      exact ⟨rfl, HF.out⟩

/-- Numbers as values. -/
def uvs (L : List Nat) : List Value := L.map (fun n => .int .u64 (n : Nat))
theorem uvs_at {L : List Nat} {i : Nat} (h : i < L.length) : (uvs L)[i]? = some (.int .u64 ((L.getD i 0 : Nat) : Nat)) := by simp [uvs, h]
theorem vals_at {w : World} {a : Option Addr} {L : List Nat} (h : ValsAt w a (uvs L)) {i : Nat} (hi : i < L.length) : ∃ b off, a = some ⟨b, off, none⟩ ∧ w.cell? ⟨b, off + i, none⟩ = some (.int .u64 ((L.getD i 0 : Nat) : Nat)) := by
  rcases h with h | ⟨b, off, rfl, hc⟩
  · have := uvs_at hi; rw [h] at this; simp at this
  · exact ⟨b, off, rfl, hc i _ (uvs_at hi)⟩
set_option maxRecDepth 100000 in
set_option maxHeartbeats 1000000 in
theorem sameIds_any {w : World} {a a' : Option Addr} {L : List Nat} (h : ValsAt w a (uvs L)) (h' : ValsAt w a' (uvs L)) {n cap cap' : Nat} (hn : n = L.length) (hsz : n < 4611686018427387904) :
    Calls Try.prog 17 #[.slice a n cap, .slice a' n cap'] w fun e w' => e = .returned (.bool true) ∧ Frm [] w w' := by
  have HN := Lib.hid hn; clear hn
  have H := Lib.hid h; clear h
  have H' := Lib.hid h'; clear h'
  have hb : ((n : Int) != (n : Int)) = false := by simp
  go_enter Try.func17, Try.ntmps17
  go_wp2
  clear hb
  go_loopw [13] (fun i wr => ∃ k : Nat, k ≤ n ∧ i = .int .i64 k ∧ Hid (Frm [] w wr)) (fun i _ => n - (intOf i).toNat)
  case atStart => exact ⟨0, Nat.zero_le _, rfl, Lib.hid (Frm.refl _ _)⟩
  case round =>
    obtain ⟨k, hk, rfl, HF⟩ := hrel
    by_cases hlt : k < n
    · obtain ⟨b, off, rfl, p0⟩ := vals_at (H.out.keep HF.out (by simp)) (i := k) (by have := HN.out; omega)
      obtain ⟨b', off', rfl, q0⟩ := vals_at (H'.out.keep HF.out (by simp)) (i := k) (by have := HN.out; omega)
      generalize L.getD k 0 = x at p0 q0
      have hlt' : (k : Int) < (n : Int) := by omega
      have e : ((x : Int) != (x : Int)) = false := by simp
      go_wp2
      go_quiet (fail)
      go_wp2
      go_roundw
      case rel => exact ⟨k + 1, by omega, by go_num, Lib.hid (HF.out.drewN _)⟩
      case measure => simp [intOf]; omega
    · obtain rfl : k = n := by omega
      go_wp2
      go_ret
      exact ⟨rfl, HF.out⟩
end Go.Proofs.Ytefplgligmkbiaa
