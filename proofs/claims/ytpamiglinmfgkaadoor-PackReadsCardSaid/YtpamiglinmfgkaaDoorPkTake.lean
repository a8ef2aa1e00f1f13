/- Reader: what a Reader reads as (Rdr), what a throw leaves (Thrown); contracts of reads, Left, throw, take. -/
import Derived.Test.YtpamiglinmfgkaaDoorPkDone
import Derived.WalkLawsBesides
namespace Go.Proofs.YtpamiglinmfgkaaDoor
open Go.RowKit

/-- The Reader at block rb, of the call at cb, has the bytes l left, which lie in block db. -/
def Rdr (w : World) (rb cb db : Nat) (l : List Nat) : Prop :=
  ∃ a cap, Whole w rb 50 #[.slice a l.length cap, .pointer (some ⟨cb, 0, none⟩)] ∧ Whole w cb 47 #[.bool false, .int .i64 0] ∧ Bytes w a l ∧
    l.length ≤ cap ∧ cap ≤ 9223372036854775807 ∧ (a = none → cap = 0) ∧ (∀ x, a = some x → x.block = db) ∧ db ≠ rb ∧ db ≠ cb

/-- What is thrown: the call itself, with its code. -/
def Thrown (w : World) (rb cb : Nat) (c : Int) (e : Ending) (w' : World) : Prop :=
  e = .panicked [{ v := .iface 45 (.pointer (some ⟨cb, 0, none⟩)), recovered := false }] ∧ Whole w' cb 47 #[.bool false, .int .i64 c] ∧ Frm [rb, cb] w w'

theorem Rdr.ne {w : World} {rb cb db : Nat} {l : List Nat} (h : Rdr w rb cb db l) : rb ≠ cb := by
  obtain ⟨a, cap, h1, h2, _⟩ := h
  exact h1.ne h2 (by decide)

theorem reads_any {w : World} {rb cb db : Nat} {l : List Nat} (h : Rdr w rb cb db l) :
    Calls Tryd.prog 20 #[.pointer (some ⟨rb, 0, none⟩)] w fun e w' => e = .returned (.bool true) ∧ w = w' := by
  obtain ⟨a, cap, h1, h2, _⟩ := h
  have c1 := h1.cell 1
  have c2 := h2.cell 0
  simp at c1 c2
  clear h1 h2
  go_enter Tryd.func20, Tryd.ntmps20
  go_wp2
  go_ret
  exact ⟨rfl, rfl⟩

theorem left_any {w : World} {rb cb db : Nat} {l : List Nat} (h : Rdr w rb cb db l) :
    Calls Tryd.prog 9 #[.pointer (some ⟨rb, 0, none⟩)] w fun e w' => e = .returned (.int .i64 (l.length : Nat)) ∧ w = w' := by
  have H := Lib.hid h
  obtain ⟨a, cap, h1, h2, _⟩ := h
  have c1 := h1.cell 0
  simp at c1
  clear h1 h2
  go_enter Tryd.func9, Tryd.ntmps9
  go_wp2_with (go_at_call 20; refine (reads_any H.out).mono ?_; rintro e w' ⟨rfl, rfl⟩)
  go_ret
  exact ⟨rfl, rfl⟩

theorem throw_any {w : World} {rb cb db : Nat} {l : List Nat} (c : Int) (h : Rdr w rb cb db l) :
    Calls Tryd.prog 21 #[.pointer (some ⟨rb, 0, none⟩), .int .i64 c] w (Thrown w rb cb c) := by
  have hne := h.ne
  obtain ⟨a, cap, h1, h2, _⟩ := h
  have c1 := h1.cell 1
  have c2 := h2.cell 1
  have f2 := h2.free 1
  have c3 := (h1.other (p := ⟨cb, 1, none⟩) hne (.int .i64 c)).cell 1
  simp at c1 c2 c3
  have HW := Lib.hid (h2.put 1 (.int .i64 c))
  clear h1 h2
  go_enter Tryd.func21, Tryd.ntmps21
  go_wp2
  exact ⟨rfl, rfl, HW.out, (Frm.refl _ _).setCell (.inl (by simp)) _⟩

/-- What is taken: a piece of the bytes. -/
def Taken (w : World) (rb cb db : Nat) (l : List Nat) (k : Nat) (e : Ending) (w' : World) : Prop :=
  ∃ a cap, e = .returned (.slice a k cap) ∧ Bytes w' a (l.take k) ∧ k ≤ cap ∧ cap ≤ 9223372036854775807 ∧ (a = none → cap = 0) ∧ (∀ x, a = some x → x.block = db) ∧ Rdr w' rb cb db (l.drop k) ∧ Frm [rb] w w'

theorem take_short {w : World} {rb cb db : Nat} {l : List Nat} (k : Nat) (h : Rdr w rb cb db l) (hk : l.length < k) (hk64 : k < 18446744073709551616) :
    Calls Tryd.prog 38 #[.pointer (some ⟨rb, 0, none⟩), .int .u64 k] w (Thrown w rb cb 4) := by
  have H := Lib.hid h
  obtain ⟨a, cap, h1, h2, h3, hlc, hcm, _⟩ := h
  have c0 := h1.cell 0
  have c1 := h1.cell 1
  have c2 := h2.cell 1
  simp at c0 c1 c2
  clear h1 h2 h3
  go_enter Tryd.func38, Tryd.ntmps38
  go_wp2_with (go_at_call 20; refine (reads_any H.out).mono ?_; rintro e w' ⟨rfl, rfl⟩)
  refine (throw_any 4 H.out).mono ?_
  rintro e w' ⟨rfl, h1, h2⟩
  exact ⟨rfl, rfl, h1, h2⟩

theorem Bytes.nil {w : World} (a : Option Addr) : Bytes w a [] := ⟨by simp, by simp, .inl rfl⟩
theorem Bytes.take {w : World} {a : Option Addr} {l : List Nat} (h : Bytes w a l) (k : Nat) : Bytes w a (l.take k) := by
  obtain ⟨h8, hm, hc⟩ := h
  refine ⟨fun c hc => h8 c (List.mem_of_mem_take hc), by have := List.length_take_le k l; simp; omega, ?_⟩
  rcases hc with h | ⟨b, off, ha, hc⟩
  · left; rw [h]; simp
  · refine .inr ⟨b, off, ha, fun i hi => ?_⟩
    rw [List.length_take] at hi
    have e : (l.take k).getD i 0 = l.getD i 0 := by simp [List.getD, show i < k by omega]
    rw [e]; exact hc i (by omega)
theorem Bytes.drop {w : World} {a : Option Addr} {l : List Nat} (h : Bytes w a l) (k : Nat) : Bytes w (a.map (fun x => x.add k)) (l.drop k) := by
  obtain ⟨h8, hm, hc⟩ := h
  refine ⟨fun c hc => h8 c (List.mem_of_mem_drop hc), by simp; omega, ?_⟩
  rcases hc with h | ⟨b, off, ha, hc⟩
  · left; rw [h]; simp
  · refine .inr ⟨b, off + k, by rw [ha]; simp [addr_add], fun i hi => ?_⟩
    rw [List.length_drop] at hi
    have e : (l.drop k).getD i 0 = l.getD (k + i) 0 := by simp [List.getD, List.getElem?_drop]
    rw [e, Nat.add_assoc]; exact hc (k + i) (by omega)

theorem take_end {w : World} {rb cb db : Nat} {l : List Nat} {k : Nat} {a a2 : Option Addr} {cap cap2 : Nat} (hne : rb ≠ cb)
    (h1 : Whole w rb 50 #[.slice a l.length cap, .pointer (some ⟨cb, 0, none⟩)]) (h2 : Whole w cb 47 #[.bool false, .int .i64 0]) (h3 : Bytes w a l)
    (hlc : l.length ≤ cap) (hcm : cap ≤ 9223372036854775807) (hnil : a = none → cap = 0) (hdb : ∀ x, a = some x → x.block = db) (d1 : db ≠ rb) (d2 : db ≠ cb) (hk : k ≤ l.length)
    (hb : Bytes w a2 (l.drop k)) (hl2 : l.length - k ≤ cap2) (hc2 : cap2 ≤ cap) (hn2 : a2 = none → cap2 = 0) (hdb2 : ∀ x, a2 = some x → x.block = db) :
    Taken w rb cb db l k (.returned (.slice a k cap)) (w.setCell ⟨rb, 0, none⟩ (.slice a2 (l.length - k) cap2)) := by
  have hf : Frm [rb] w (w.setCell ⟨rb, 0, none⟩ (.slice a2 (l.length - k) cap2)) := (Frm.refl _ _).setCell (.inl (by simp)) _
  refine ⟨a, cap, rfl, hf.bytes (h3.take k) (fun x hx => by rw [hdb x hx]; simpa using d1), by omega, hcm, hnil, hdb, ⟨a2, cap2, ?_, hf.whole h2 (by simpa using hne.symm), hf.bytes hb (fun x hx => by rw [hdb2 x hx]; simpa using d1), by simpa using hl2, by omega, hn2, hdb2, d1, d2⟩, hf⟩
  simpa using h1.put 0 (.slice a2 (l.length - k) cap2)

set_option maxHeartbeats 1000000 in
theorem take_ok {w : World} {rb cb db : Nat} {l : List Nat} (k : Nat) (h : Rdr w rb cb db l) (hk : k ≤ l.length) :
    Calls Tryd.prog 38 #[.pointer (some ⟨rb, 0, none⟩), .int .u64 k] w (Taken w rb cb db l k) := by
  have H := Lib.hid h
  obtain ⟨a, cap, h1, h2, h3, hlc, hcm, hnil, hdb, d1, d2⟩ := h
  have c0 := h1.cell 0
  have c1 := h1.cell 1
  have c2 := h2.cell 1
  have f0 := h1.free 0
  simp at c0 c1 c2
  have hll : l.length ≤ 9223372036854775807 := h3.2.1
  have END := Lib.hid (fun (a2 : Option Addr) (cap2 : Nat) => take_end (a2 := a2) (cap2 := cap2) H.out.ne h1 h2 h3 hlc hcm hnil hdb d1 d2 hk)
  have H3 := Lib.hid h3; clear h3
  have HNIL := Lib.hid hnil; clear hnil
  have HDB := Lib.hid hdb; clear hdb
  clear h1 h2 d1 d2
  go_enter Tryd.func38, Tryd.ntmps38
  go_wp2_with (go_at_call 20; refine (reads_any H.out).mono ?_; rintro e w' ⟨rfl, rfl⟩)
  · go_ret
    obtain rfl : cap = k := by assumption
    have e : l.drop cap = [] := List.drop_eq_nil_of_le (by omega)
    exact END.out a 0 (by rw [e]; exact Bytes.nil _) (by omega) (by omega) (fun _ => rfl) HDB.out
  · go_ret
    exact END.out _ _ (H3.out.drop k) (by omega) (by omega) (fun h => by have := HNIL.out (by simpa using h); omega) (fun x hx => by
      cases a with
      | none => cases hx
      | some y =>
        simp at hx
        subst hx
        have := HDB.out y rfl
        unfold Addr.add
        split <;> exact this)
end Go.Proofs.YtpamiglinmfgkaaDoor
