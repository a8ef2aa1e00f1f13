/- A keeper of a disk of its own through the calls: what each answers and leaves. -/
import Derived.Test.YtbdgldlblkflpaaGreatMF
namespace Go.Proofs.YtbdgldlblkflpaaGreat
open Go.RowKit
set_option maxRecDepth 100000
/-- Since w0 a keeper of a disk of its own. -/
def Kv (w0 w : World) (k : Nat) (S : MS) (l : List Nat) (room : Nat) : Prop := ∃ jq dp Fd, Kp w w0.heap.size [] k jq dp Fd S l room ∧ Frm [] w0 w ∧ MOk S
theorem kv_do {w0 w : World} {k : Nat} {S S' : MS} {l : List Nat} {room n : Nat} (c : MC) (a : Option Addr) (cap : Nat) (h : Kv w0 w k S l room) (hv : ∀ d ∈ S.nodes, d.ver ≠ 0) (hc : MCOk c) (hb : Bytes w a c.val) (hnil : a = none → cap = 0) (hE : doE S c = 0) (hN : doN S c = n) (hS : doS S c = S') (hk : c.kind ≠ 7) (hl : c.key.size + c.val.length ≤ 4000) (hr : l.length + 5000 ≤ room) :
    Calls Tryz.prog 25 #[.pointer (some ⟨k, 0, none⟩), cmdV c a cap] w fun e w' => ∃ ga gn gc l', e = .returned (.tuple #[.int .u64 (n : Nat), .slice ga gn gc, .int .i64 0]) ∧ Kv w0 w' k S' l' room ∧ l'.length ≤ l.length + 41 + (c.key.size + c.val.length) := by
  obtain ⟨jq, dp, Fd, hk0, hf0, hM⟩ := h
  have hlen := recB_len S c hk
  refine (kdo_ok c a cap hk0 hM hv hc (by simp) hb hnil hE (jc_small (by omega) (by omega))).mono ?_
  rintro e w' ⟨ga, gc, Fd', rfl, _, _, hk1, hf1, _⟩
  rw [hN]
  rw [hS] at hk1
  refine ⟨ga, _, gc, _, rfl, ⟨jq, dp, Fd', hk1, hf0.trans hf1 (by simp) (fun x hx => .inr (hk0.out x (by simp only [List.mem_cons] at hx ⊢; rcases hx with h | h; exact .inl h; exact .inr (.inr h))).2), by rw [← hS]; exact hM.does hc⟩, ?_⟩
  rw [List.length_append, fr_length, hlen]
  omega
theorem kv_bad {w0 w : World} {k : Nat} {S : MS} {l : List Nat} {room n : Nat} (c : MC) (a : Option Addr) (cap : Nat) (h : Kv w0 w k S l room) (hv : ∀ d ∈ S.nodes, d.ver ≠ 0) (hc : MCOk c) (hb : Bytes w a c.val) (hnil : a = none → cap = 0) (hE : doE S c = n) (hn : n ≠ 0) :
    Calls Tryz.prog 25 #[.pointer (some ⟨k, 0, none⟩), cmdV c a cap] w fun e w' => ∃ ga gc, e = .returned (.tuple #[.int .u64 0, .slice ga 0 gc, .int .i64 (n : Nat)]) ∧ Kv w0 w' k S l room := by
  obtain ⟨jq, dp, Fd, hk0, hf0, hM⟩ := h
  refine (kdo_bad c a cap hk0 hM hv hc (by simp) hb hnil (n := n) (by unfold kE; rw [if_pos (by omega)]; exact hE) hn).mono ?_
  rintro e w' ⟨ga, gc, Fd', rfl, hk1, hf1, _⟩
  exact ⟨ga, gc, rfl, jq, dp, Fd', hk1, hf0.trans hf1 (by simp) (fun x hx => .inr (hk0.out x (by simp only [List.mem_cons] at hx ⊢; rcases hx with h | h; exact .inl h; exact .inr (.inr h))).2), hM⟩
theorem kv_get {w0 w : World} {k : Nat} {S : MS} {l : List Nat} {room : Nat} (s : ByteArray) (b : Bool) (h : Kv w0 w k S l room) (hb : isN S.nodes s = b) :
    Calls Tryz.prog 18 #[.pointer (some ⟨k, 0, none⟩), .string s] w fun e w' => ∃ x y z a m c, e = .returned (.tuple #[.agg #[.string x, .slice a m c, .int .u64 (y : Nat), .int .u64 (z : Nat)], .bool b]) ∧ Kv w0 w' k S l room := by
  obtain ⟨jq, dp, Fd, hk0, hf0, hM⟩ := h
  refine (kget_any s hk0 hM.good).mono ?_
  rintro e w' ⟨a, c, rfl, _, _, _, hf⟩
  rw [hb]
  exact ⟨_, _, _, _, _, _, rfl, jq, dp, Fd, hk0.here hf, hf0.trans hf (by simp) (by simp), hM⟩
theorem kv_live {w0 w : World} {k : Nat} {S : MS} {l : List Nat} {room : Nat} (id : Nat) (b : Bool) (h : Kv w0 w k S l room) (hb : liveS S.ses id S.now = b) :
    Calls Tryz.prog 29 #[.pointer (some ⟨k, 0, none⟩), .int .u64 (id : Nat)] w fun e w' => e = .returned (.bool b) ∧ Kv w0 w' k S l room := by
  obtain ⟨jq, dp, Fd, hk0, hf0, hM⟩ := h
  refine (klive_any id hk0).mono ?_
  rintro e w' ⟨rfl, hf⟩
  rw [hb]
  exact ⟨rfl, jq, dp, Fd, hk0.here hf, hf0.trans hf (by simp) (by simp), hM⟩
theorem Kv.here {w0 w w' : World} {k : Nat} {S : MS} {l : List Nat} {room : Nat} (h : Kv w0 w k S l room) (hf : Frm [] w w') : Kv w0 w' k S l room := by
  obtain ⟨jq, dp, Fd, hk0, hf0, hM⟩ := h
  exact ⟨jq, dp, Fd, hk0.here hf, hf0.trans hf (by simp) (by simp), hM⟩
theorem kopen_low (w0 w : World) (dp room : Nat) (h : Dk w dp dp [dp] [] 0 room) (hf : Frm [] w0 w) (hd : w0.heap.size ≤ dp) :
    Calls Tryz.prog 12 #[.pointer (some ⟨dp, 0, none⟩)] w fun e w' => ∃ k jq Fd, e = .returned (.tuple #[.pointer (some ⟨k, 0, none⟩), .int .i64 0]) ∧ Kp w' w0.heap.size [] k jq dp Fd {} [] room ∧ Frm [] w0 w' := by
  refine (kopen_new [] h (by simp) (by simp)).mono ?_
  rintro e w' ⟨k, jq, Fd, rfl, hk, hf1, hx, _⟩
  refine ⟨k, jq, Fd, rfl, ⟨?_, hk.jn, ?_, fun x hx => ⟨by simp, by have := (hk.out x hx).2; omega⟩⟩, hf.trans hf1 (by simp) (fun x hx => by simp at hx; subst hx; exact .inr hd)⟩
  · obtain ⟨tp, bp, h1, h2⟩ := hk.keeper
    exact ⟨tp, bp, h1, h2.low hd⟩
  · have h1 := hk.dk
    obtain ⟨⟨a1, a2, a3⟩, h2⟩ := h1
    refine ⟨⟨a1, by omega, a3⟩, ?_⟩
    rcases h2 with h2 | ⟨r, a, cap, hon, hF⟩
    · exact .inl h2
    · refine .inr ⟨r, a, cap, ⟨hon.disk, hon.row, ?_, by have := hon.hr; omega⟩, hF⟩
      rcases hon.head with ⟨q1, q2, q3⟩ | ⟨g, cur, p0, p1, p3⟩
      · exact .inl ⟨q1, q2, q3⟩
      · exact .inr ⟨g, cur, p0, by omega, p3⟩
theorem kv_open (w0 w : World) (dp room : Nat) (h : Dk w dp dp [dp] [] 0 room) (hf : Frm [] w0 w) (hd : w0.heap.size ≤ dp) :
    Calls Tryz.prog 12 #[.pointer (some ⟨dp, 0, none⟩)] w fun e w' => ∃ k, e = .returned (.tuple #[.pointer (some ⟨k, 0, none⟩), .int .i64 0]) ∧ Kv w0 w' k {} [] room := by
  refine (kopen_low w0 w dp room h hf hd).mono ?_
  rintro e w' ⟨k, jq, Fd, rfl, hk, hf1⟩
  exact ⟨k, rfl, jq, dp, Fd, hk, hf1, MOk.first⟩
end Go.Proofs.YtbdgldlblkflpaaGreat
