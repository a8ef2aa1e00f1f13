/- Contracts of Writer.U8, U16, U32, U64, Bytes, Text. -/
import Derived.Test.YtahhkffghhgojaaDoorZPkNumber
import Derived.Test.YtahhkffghhgojaaDoorMA
import Derived.Lib.ConvBytes
namespace Go.Proofs.YtahhkffghhgojaaDoor
open Go.RowKit

theorem u8_any {w : World} {B p : Nat} {F : List Nat} {l : List Nat} (n : Nat) (h : Wr w B p F l) (hn : n < 256) (hfit : l.length + 1 ≤ 140737488355328) :
    Calls Tryd.prog 44 #[.pointer (some ⟨p, 0, none⟩), .int .u8 n] w (PutEnd w B p F l (be 1 n)) := by
  have H := Lib.hid h; clear h
  have HFIT := Lib.hid hfit; clear hfit
  go_enter Tryd.func44, Tryd.ntmps44
  go_wp2_with fail
  refine (number_any n 1 H.out (by omega) (by omega) HFIT.out).mono ?_
  rintro e w' ⟨rfl, hput⟩
  have HP := Lib.hid hput; clear hput
  go_wp2
  go_end0
  exact ⟨rfl, HP.out⟩

theorem u32_any {w : World} {B p : Nat} {F : List Nat} {l : List Nat} (n : Nat) (h : Wr w B p F l) (hn : n < 4294967296) (hfit : l.length + 4 ≤ 140737488355328) :
    Calls Tryd.prog 79 #[.pointer (some ⟨p, 0, none⟩), .int .u32 n] w (PutEnd w B p F l (be 4 n)) := by
  have H := Lib.hid h; clear h
  have HFIT := Lib.hid hfit; clear hfit
  go_enter Tryd.func79, Tryd.ntmps79
  go_wp2_with fail
  refine (number_any n 4 H.out (by omega) (by omega) HFIT.out).mono ?_
  rintro e w' ⟨rfl, hput⟩
  have HP := Lib.hid hput; clear hput
  go_wp2
  go_end0
  exact ⟨rfl, HP.out⟩

theorem u64_any {w : World} {B p : Nat} {F : List Nat} {l : List Nat} (n : Nat) (h : Wr w B p F l) (hn : n < 18446744073709551616) (hfit : l.length + 8 ≤ 140737488355328) :
    Calls Tryd.prog 46 #[.pointer (some ⟨p, 0, none⟩), .int .u64 n] w (PutEnd w B p F l (be 8 n)) := by
  have H := Lib.hid h; clear h
  have HFIT := Lib.hid hfit; clear hfit
  go_enter Tryd.func46, Tryd.ntmps46
  go_wp2_with fail
  refine (number_any n 8 H.out (by omega) (by omega) HFIT.out).mono ?_
  rintro e w' ⟨rfl, hput⟩
  have HP := Lib.hid hput; clear hput
  go_wp2
  go_end0
  exact ⟨rfl, HP.out⟩

theorem Put.then {w w1 w2 : World} {B p : Nat} {F F1 l b c : List Nat} (hf1 : Frm F w w1) (hx1 : ∀ x ∈ F1, x ∈ F ∨ w.heap.size ≤ x) (h2 : Put w1 w2 B p F1 (l ++ b) c) : Put w w2 B p F l (b ++ c) := by
  obtain ⟨F2, hw2, hf2, hx2⟩ := h2
  refine ⟨F2, by rw [← List.append_assoc]; exact hw2, hf1.trans hf2 (fun x h => h) hx1, fun x h => ?_⟩
  rcases hx2 x h with h1 | h1
  · exact hx1 x h1
  · right; have := hf1.size; omega

/-- '[]byte(s)': the world behind it; what it reads as. -/
theorem conv_frm (w : World) (e : TypeId) (s : ByteArray) : Frm [] w (Lib.bytesWorld w e s) :=
  ⟨rfl, rfl, rfl, by rw [Lib.bytesWorld_size]; omega, fun k hk _ => Lib.bytesWorld_at_old w e s k hk⟩
theorem conv_bytes (w : World) (e : TypeId) (s : ByteArray) (hs : s.size ≤ 9223372036854775807) : Bytes (Lib.bytesWorld w e s) (some ⟨w.heap.size, 0, none⟩) (strL s) := by
  refine ⟨strL_lt s, by rw [strL_length]; exact hs, .inr ⟨_, _, rfl, fun i hi => ?_⟩⟩
  rw [strL_length] at hi
  rw [Nat.zero_add, Lib.bytesWorld_cell w e s i hi]
  have h2 : i < s.data.toList.length := by simpa using hi
  simp [strL, List.getD, hi]

theorem bytes_any {w : World} {B p : Nat} {F : List Nat} {l : List Nat} {a : Option Addr} {n cap : Nat} {b : List Nat} (h : Wr w B p F l)
    (hb : Bytes w a b) (hap : b ≠ [] → ∀ x, a = some x → x.block ∉ F) (hn : n = b.length) (hnil : a = none → cap = 0) (hn32 : n < 4294967296) (hfit : l.length + 4 + n ≤ 140737488355328) :
    Calls Tryd.prog 61 #[.pointer (some ⟨p, 0, none⟩), .slice a n cap] w (PutEnd w B p F l (be 4 n ++ b)) := by
  have HS := Lib.hid h; clear h
  have HFIT := Lib.hid hfit; clear hfit
  have HB := Lib.hid hb; clear hb
  have HA := Lib.hid hap; clear hap
  have HN := Lib.hid hn; clear hn
  have HNIL := Lib.hid hnil; clear hnil
  go_enter Tryd.func61, Tryd.ntmps61
  go_wp2_with fail
  refine (u32_any n HS.out hn32 (by have := HFIT.out; omega)).mono ?_
  rintro e w1 ⟨rfl, F1, hw1, hf1, hF1⟩
  have HW1 := Lib.hid hw1; clear hw1
  have HX1 := Lib.hid hf1; clear hf1
  have HF1 := Lib.hid hF1; clear hF1
  go_wp2_with fail
  refine (put_any HW1.out (HX1.out.bytes' HB.out HA.out) (fun hne x hx e => HA.out hne x hx (by rw [e]; exact HS.out.mem)) HN.out HNIL.out (by rw [List.length_append, be_length]; have := HFIT.out; omega)).mono ?_
  rintro e w2 ⟨rfl, hput⟩
  have HP := Lib.hid (Put.then HX1.out HF1.out hput); clear hput
  go_wp2
  go_end0
  exact ⟨rfl, HP.out⟩

theorem text_any {w : World} {B p : Nat} {F : List Nat} {l : List Nat} (s : ByteArray) (h : Wr w B p F l) (hn32 : s.size < 4294967296) (hfit : l.length + 4 + s.size ≤ 140737488355328) :
    Calls Tryd.prog 45 #[.pointer (some ⟨p, 0, none⟩), .string s] w (PutEnd w B p F l (be 4 s.size ++ strL s)) := by
  have hcv := fun (w : World) => Lib.run_convert_string_bytes (P := Tryd.prog) w 9 22 5 s Tryd.underlying9 Tryd.underlying22 Tryd.underlying5
  have HS := Lib.hid h; clear h
  have HFIT := Lib.hid hfit; clear hfit
  go_enter Tryd.func45, Tryd.ntmps45
  go_wp2_with fail
  have hf := conv_frm w 5 s
  refine (bytes_any (HS.out.keep hf (by simp)) (conv_bytes w 5 s (by omega)) ?_ (strL_length s).symm (by simp) hn32 HFIT.out).mono ?_
  · intro _ x hx hm
    cases hx
    have := (HS.out.lt _ hm).2
    simp at this
  rintro e w2 ⟨rfl, hput⟩
  have HP := Lib.hid (hput.early hf); clear hput hf hcv
  go_wp2
  go_end0
  exact ⟨rfl, HP.out⟩
end Go.Proofs.YtahhkffghhgojaaDoor
